/-
  PoolAlone: alone, Pop takes the record that was pushed last, and a new pool has its records in their order; for 12 records, 40 operations. No condition beyond the statement's own.
-/
import Derived.Test.YtadknblgfcgkpaaPolShown
import Derived.Test.YtadknblgfcgkpaaPolTwo
import Derived.Test.YtadknblgfcgkpaaAccLeaf
import Derived.Test.YtadknblgfcgkpaaLaw
import Derived.Test.YtadknblgfcgkpaaFields
import Derived.Deep.Cut
import Derived.Deep.CutRange
import Derived.Deep.RegionHeld3
namespace Go.Proofs.Ytadknblgfcgkpaa.poolAlone
open Go.ChangeShapes Go.WideShapes Go.ChangeAt Go.RowKit Go.Deep Go.BigFrame
set_option linter.unusedVariables false
theorem own : ownKnob Try.prog.godebug = none := by kernel_rfl

set_option maxRecDepth 100000 in
set_option maxHeartbeats 16000000 in
theorem walkA (c0 : Nat) (hc0 : c0 < 256) (LA : Option Addr) (ln lc : Nat) (xs : List Nat) (hln : 40 < ln) (w : World) (HL : Hid (AtB w LA ln xs)) :
    Calls Try.prog 4 #[.int .u8 (c0 : Int), .slice LA ln lc] w fun e w' => e = .returned (.bool true) ∧ Below w.heap.size w w' := by
  have d1 : decide ((40 : Int) < (ln : Int)) = true := by rw [decide_eq_true_iff]; omega
  have d1' : decide (40 < ln) = true := by rw [decide_eq_true_iff]; omega
  go_enter Try.func4, Try.ntmps4
  go_wp2_with fail
  (with_reducible refine (poolShown _).mono ?_)
  rintro e w1 ⟨rfl, hb⟩
  have BB := Lib.hid hb
  clear hb
  go_wp2_with fail
  go_ret
  exact ⟨rfl, BB.out⟩

set_option maxRecDepth 100000 in
set_option maxHeartbeats 16000000 in
theorem walk (c0 : Nat) (hc0 : c0 < 256) (LA : Option Addr) (ln lc : Nat) (xs : List Nat) (hln : ln ≤ 40) (w : World) (HL : Hid (AtB w LA ln xs)) :
    Calls Try.prog 4 #[.int .u8 (c0 : Int), .slice LA ln lc] w fun e w' => e = .returned (.bool true) ∧ Below w.heap.size w w' := by
  obtain ⟨r, hr⟩ : ∃ r : Nat, r = 0 := ⟨0, rfl⟩
  obtain ⟨c, hc⟩ : ∃ c, c0 % 13 = c := ⟨_, rfl⟩
  have hc1 : c < 13 := by omega
  have q1 : (c0 : Int) % 13 = (c : Int) := by omega
  have d1 : decide ((40 : Int) < (ln : Int)) = false := by rw [decide_eq_false_iff_not]; omega
  have d1' : decide (40 < ln) = false := by rw [decide_eq_false_iff_not]; omega
  have HNEW : ∀ w, Calls Try.prog 14 #[.int .i64 1, .int .i64 (c : Int)] w (NewWdR w 1 c 1 (sizeN 1 c) (newF 1 c) r) := fun w => newWdR 1 c (by decide) (by decide) (by omega) hr w
  have HP0 : Hid (Parts c (newF 1 c) (List.range' 1 c) []) := Lib.hid (Parts.start (by omega))
  have HPOP := fun G hG a l hF ha A ka R ra S sa w h0 h1 h2 => poolPop c r (by omega) G hG A ka R ra S sa w h0 h1 h2 a l hF ha
  have HNONE := fun G hG hF A ka R ra S sa w h0 h1 h2 => poolNone c r (by omega) G hG A ka R ra S sa w h0 h1 h2 hF
  have HPUSH := fun G hG q hq1 hq A ka R ra S sa w h0 h1 h2 => poolPush c r (by omega) G hG A ka R ra S sa w h0 h1 h2 q hq1 hq
  have HFREE : ∀ (A : Option Addr) (ka : Nat) (G : Nat → Nat) (l : List Nat), FreeIs 1 G l → (∀ a ∈ l, a ≤ c) → l.length ≤ c → ∀ w, Hid (AtW w A (sizeN 1 c) G) → Calls Try.prog 16 #[.agg #[.int .i64 1, .int .i64 (c : Int), .slice A (sizeN 1 c) ka]] w (FreePost w l) := fun A ka G l hF hl hll w hA => free_at 1 c (by decide) (by omega) A (sizeN 1 c) ka rfl G l hF hl hll w hA
  have HCK := Lib.hid hc1
  have HLN := Lib.hid hln
  have BW : Hid (w.heap.size ≤ w.heap.size) := Lib.hid (Nat.le_refl _)
  generalize newF 1 c = G0 at *
  generalize hn : sizeN 1 c = n at *
  clear hr hc hn hln
  go_enter Try.func4, Try.ntmps4
  go_wp2_with fail
  (with_reducible refine (poolShown _).mono ?_)
  rintro e w1 ⟨rfl, hb⟩
  have BB := Lib.hid hb
  clear hb
  have BWn : Hid (w.heap.size ≤ w1.heap.size) := Lib.hid BB.out.size
  clear BW; have BW := BWn; clear BWn
  go_wp2_with fail
  try rw [q1]
  (with_reducible refine (HNEW _).mono ?_)
  clear HNEW q1
  rintro e w0 ⟨A0, ka0, R0, ra0, S0, sa0, rfl, ha, hs0, hs1, hb, hP⟩
  go_upto_region 6 with fail
  have hal := al_below w0 (.cells #[.int .i64 1, .int .i64 (c : Int), .slice A0 n ka0, .int .u64 (r : Int), .slice R0 1 ra0, .slice S0 1 sa0] 51)
  have hbn := hb.trans (hal.mono hb.size)
  have W0 : Hid (WdFrom (fun b => b ≠ w0.heap.size) (fun _ => False) (w0.alloc (.cells #[.int .i64 1, .int .i64 (c : Int), .slice A0 n ka0, .int .u64 (r : Int), .slice R0 1 ra0, .slice S0 1 sa0] 51)) w0.heap.size 1 (c : Int) n r 1 G0 (zerosS 1) (zerosS 1)) := Lib.hid ⟨A0, ka0, R0, ra0, S0, sa0, WdAt.made0 (t := 1) (c := (c : Int)) (k := ka0) (r := r) (ra := ra0) (sa := sa0) w0 51 ha hs0 hs1, ha.old.mono fun b hb => (by omega), (hs0.old.mono fun b hb => (by omega : b ≠ w0.heap.size)).later hs0 hal, (hs1.old.mono fun b hb => (by omega : b ≠ w0.heap.size)).later hs1 hal, fun P h => h.elim⟩
  generalize w0.alloc (.cells #[.int .i64 1, .int .i64 (c : Int), .slice A0 n ka0, .int .u64 (r : Int), .slice R0 1 ra0, .slice S0 1 sa0] 51) = x0 at hal hbn W0 ⊢
  have BBn := Lib.hid (BB.out.trans (hbn.mono BB.out.size)); clear BB; have BB := BBn; clear BBn
  have HG0 : Hid (w.heap.size ≤ w0.heap.size) := Lib.hid (Nat.le_trans BW.out hb.size)
  generalize w0.heap.size = b0 at W0 HG0 ⊢
  clear ha hs0 hs1 hb hP hal hbn
  have hgz : b0 < x0.heap.size := W0.out.lt
  have HZ : Hid (RunU w b0 (b0 + 1) (c : Int) n r (.slice none 0 0) (.slice none 0 0) (List.range' (c + 1) (c - c)).reverse [] G0 x0) := Lib.hid ⟨BB.out, hgz, ⟨HG0.out, Nat.lt_succ_self _⟩, W0.out.sub (fun b _ hb => ⟨hb, (fun k hk => by cases hk), (fun k hk => by cases hk)⟩), by rw [Nat.sub_self]; exact OwnI.nil _ _, OwnI.nil _ _, fun k hk => by cases hk⟩
  clear W0 hgz d1 d1' BB
  go_wp2_with fail
  go_loopw [8, 10] (fun u8 u10 wr => ∃ (j : Nat), j ≤ c ∧ u10 = .int .i64 (j : Int) ∧ RunU w b0 (b0 + 1) (c : Int) n r u8 (.slice none 0 0) (List.range' (j + 1) (c - j)).reverse [] G0 wr) (fun _ u _ => (intOf u).toNat)
  case atStart => exact ⟨c, Nat.le_refl _, rfl, HZ.out⟩
  case round =>
    clear HZ
    clear x0
    obtain ⟨j, hjc, rfl, hrun⟩ := hrel
    have hcc := HCK.out
    by_cases hj : 1 ≤ j
    · obtain ⟨j1, hj1⟩ : ∃ j1, j = j1 + 1 := ⟨j - 1, by omega⟩
      have HZ := Lib.hid hrun
      have d1 : decide ((1 : Int) ≤ (j : Int)) = true := by rw [decide_eq_true_iff]; omega
      have d1' : decide (1 ≤ j) = true := by rw [decide_eq_true_iff]; exact hj
      have hlen : (List.range' (j + 1) (c - j)).reverse.length ≤ 900000 := by rw [List.length_reverse, List.length_range']; omega
      have HLEN := Lib.hid hlen
      have HST : Hid ((List.range' (j + 1) (c - j)).reverse ++ [j] = (List.range' (j1 + 1) (c - j1)).reverse) := Lib.hid (by rw [hj1]; exact pile_step (by omega))
      clear hrun hlen
      generalize (List.range' (j + 1) (c - j)).reverse = ps at *
      have HPV := Lib.hid HZ.out.pile
      have HM9 : Hid (ps.length ≤ 900000) := Lib.hid (HLEN.out)
      have HOA : Hid (∀ o, OwnI (wr.alloc o) (b0 + 1) u8 ps) := Lib.hid (fun o => (HZ.out.later (al_below wr o)).pile)
      have HZ1 : Hid (∀ o, b0 + 1 ≤ (wr.alloc o).heap.size) := Lib.hid (fun o => (HZ.out.later (al_below wr o)).size)
      have HNX : Hid (∀ o v' w', OwnI w' (b0 + 1) v' (ps ++ [j]) → (wr.alloc o).grownBy w' (Value.ownBlock u8) → (v'.ownBlock = (Value.ownBlock u8) ∨ v'.ownBlock = some (wr.alloc o).heap.size) → RunU w b0 (b0 + 1) (c : Int) n r v' (.slice none 0 0) (ps ++ [j]) [] G0 w') := Lib.hid (fun o v' w' h1 h2 h3 => (HZ.out.later (al_below wr o)).nextP h1 h2 h3)
      clear HZ HLEN
      go_upto_region 10 with (at_builtin; (refine wpList_appendI (by rfl) (.tmp 38) (.tmp 40) (by rfl) (b0 + 1) u8 ps (by rfl) (HOA.out _) wr.heap.size 1 j (by rfl) (by go_simp) HM9.out (HZ1.out _) ?_); (intro v9 w9 hown9 hg9 hv9; have HZ := Lib.hid (HNX.out _ _ _ hown9 hg9 hv9); clear hown9 hg9 hv9 HNX HOA HZ1 HM9))
      go_wp2_with fail
      go_roundw
      case rel => exact ⟨j1, by omega, by first | go_num | (simp; omega), by have h := HZ.out; rw [HST.out] at h; exact h⟩
      case measure => simp [intOf]; omega
    · have hj0 : j = 0 := by omega
      have d1 : decide ((1 : Int) ≤ (j : Int)) = false := by rw [decide_eq_false_iff_not]; omega
      have d1' : decide (1 ≤ j) = false := by rw [decide_eq_false_iff_not]; omega
      have HZ : Hid (RunU w b0 (b0 + 1) (c : Int) n r u8 (.slice none 0 0) (List.range' 1 c).reverse [] G0 wr) := Lib.hid (by rw [hj0] at hrun; exact hrun)
      clear hrun hj hjc hcc hj0
      go_wp2_with fail
      clear d1 d1'
      go_loopw [8, 9, 11] (fun u8 u9 u11 wr => ∃ (i : Nat) (G : Nat → Nat) (l hs : List Nat), i ≤ ln ∧ u11 = .int .i64 (i : Int) ∧ Parts c G l hs ∧ RunU w b0 (b0 + 1) (c : Int) n r u8 u9 l.reverse hs G wr) (fun _ _ u _ => ln - (intOf u).toNat)
      case atStart => exact ⟨0, G0, _, [], Nat.zero_le _, rfl, HP0.out, HZ.out⟩
      case round =>
        clear HZ HP0
        obtain ⟨i, G, l, hs, hiln, rfl, hpt, hrun⟩ := hrel
        have HR := Lib.hid hrun
        have HPT := Lib.hid hpt
        obtain ⟨pA, pcap, rfl, hpc, hpm, hpcells⟩ := hrun.pile.form
        obtain ⟨vA, vcap, rfl, hvc, hmx, hcells⟩ := hrun.held.form
        have HLP := Lib.hid (fun k hk => (hrun.pile.lt k hk).2)
        have HLH := Lib.hid (fun k hk => (hrun.held.lt k hk).2)
        have HOLD := Lib.hid hrun.old
        have BB := Lib.hid hrun.below
        have HWD := Lib.hid hrun.run
        have HSZR := Lib.hid hrun.size
        have hhl : hs.length ≤ 12 := by have := hpt.len; have := HCK.out; omega
        have hll : l.reverse.length ≤ 12 := by have := hpt.len; have := HCK.out; simp; omega
        clear hrun hpt hmx hpm
        have hln40 := HLN.out
        by_cases hlt : i < ln
        · have d1 : decide ((i : Int) < (ln : Int)) = true := by rw [decide_eq_true_iff]; omega
          have d1' : decide (i < ln) = true := by rw [decide_eq_true_iff]; omega
          obtain ⟨lb, lo, rfl, hlb, hlc⟩ := (AtB.later HL BB.out).2.2.2 (by omega)
          have hx := hlc i hlt
          have hxb : xs.getD i 0 < 256 := by
            have h1 := HL.out.2.1
            have h2 := HL.out.1
            rw [List.getD_eq_getElem?_getD, List.getElem?_eq_getElem (by omega)]
            exact h1 _ (List.getElem_mem _)
          generalize xs.getD i 0 = x at hx hxb
          have i0 : (0 : Int) ≤ (i : Int) := by omega
          have i1 : (i : Int) < (ln : Int) := by omega
          clear hlc
          generalize hk : hs.length = k at *
          have HKL := Lib.hid hk
          generalize hkp : l.reverse.length = kp at *
          have HKP := Lib.hid hkp
          clear hk hkp
          by_cases hpop : x % 2 = 0 ∨ k = 0
          · by_cases hx1 : x % 2 = 0
            · have dx : ((x : Int) % 2 == 0) = true := by rw [beq_iff_eq]; omega
              clear hx1 hpop
              cases l with
              | nil =>
                have hG : ∀ j, G j < 18446744073709551616 := by obtain ⟨_, _, _, _, _, _, hW, _⟩ := HWD.out; exact hW.2.1.1
                have HAL := HNONE G hG HPT.out.free
                have HPT2 := HPT
                have dp : decide ((0 : Int) < (kp : Int)) = false := by have := HKP.out; simp at this; rw [decide_eq_false_iff_not]; omega
                have dp' : decide (0 < kp) = false := by have := HKP.out; simp at this; rw [decide_eq_false_iff_not]; omega
                clear hG HPOP HNONE HPUSH HFREE hcells hpcells
                obtain ⟨A1, ka1, R1, ra1, S1, sa1, hW, o0, o1, o2, _⟩ := HWD.out
                have W1 := Lib.hid hW
                have O1 := Lib.hid (And.intro o0 (And.intro o1 o2))
                obtain ⟨c0, c1, c2, c3, c4, c5⟩ := hW.cells
                have HGlt := Lib.hid hW.1.1
                clear hW o0 o1 o2
                go_wp2_with fail
                (with_reducible refine (HAL A1 ka1 R1 ra1 S1 sa1 _ W1.out.gA W1.out.g0 W1.out.g1).mono ?_)
                clear HAL c0 c1 c2 c3 c4 c5
                rintro e w3 ⟨A3, ka3, R3, ra3, S3, sa3, rfl, ha, hs0, hs1, hb, hP⟩
                go_upto_region 17 with fail
                have hbx : Below w3.heap.size w3 ((w3.alloc (.cells #[.int .i64 1, .int .i64 (c : Int), .slice A3 n ka3, .int .u64 (r : Int), .slice R3 1 ra3, .slice S3 1 sa3] 51)).alloc (.cells #[.int .i64 0, .bool false, .int .i64 0, .int .u64 0, .slice none 0 0] 37)) := below_pair _ _ _
                have W3 := Lib.hid (WdAt.made (t := 1) (c := (c : Int)) (k := ka3) (r := r) (ra := ra3) (sa := sa3) w3 (.cells #[.int .i64 0, .bool false, .int .i64 0, .int .u64 0, .slice none 0 0] 37) 51 ha hs0 hs1)
                have O3 := Lib.hid (VarAt.made1 w3 (.cells #[.int .i64 1, .int .i64 (c : Int), .slice A3 n ka3, .int .u64 (r : Int), .slice R3 1 ra3, .slice S3 1 sa3] 51) #[.int .i64 0, .bool false, .int .i64 0, .int .u64 0, .slice none 0 0] 37)
                have hbn := hb.trans (hbx.mono hb.size)
                have HS3 := Lib.hid (And.intro hs0 hs1)
                have HX3 := Lib.hid hbx
                have HB3 := Lib.hid hb
                have HP3 := Lib.hid hP
                generalize (w3.alloc (.cells #[.int .i64 1, .int .i64 (c : Int), .slice A3 n ka3, .int .u64 (r : Int), .slice R3 1 ra3, .slice S3 1 sa3] 51)).alloc (.cells #[.int .i64 0, .bool false, .int .i64 0, .int .u64 0, .slice none 0 0] 37) = x3 at hbx hbn W3 O3 HX3 ⊢
                have HRn := Lib.hid (HR.out.later hbn); clear HR; have HR := HRn; clear HRn
                have BBn := Lib.hid (BB.out.trans (hbn.mono BB.out.size)); clear BB; have BB := BBn; clear BBn
                clear ha hs0 hs1 hb hP hbx hbn
                have HRP : Hid (RunP w b0 (b0 + 1) (c : Int) n r (.slice pA kp pcap) (.slice vA k vcap) ([] : List Nat).reverse hs G w3.heap.size (w3.heap.size + 1) [.int .i64 0, .bool false, .int .i64 0, .int .u64 0, .slice none 0 0] G x3) := Lib.hid (by
                  obtain ⟨q0, q1, q2⟩ := HP3.out (Nt2 b0 (.slice pA kp pcap) (.slice vA k vcap)) ⟨fun b hb => HOLD.out b hb, O1.out.1, O1.out.2.1, O1.out.2.2⟩
                  have hw3 := HB3.out.size
                  have hsz := HSZR.out
                  exact ⟨HR.out, ⟨A3, ka3, R3, ra3, S3, sa3, W3.out, q0, q1.later HS3.out.1 HX3.out, q2.later HS3.out.2 HX3.out, fun P h => h.elim⟩, O3.out, ⟨by omega, by omega⟩, fun k hk => by
                    rcases hk with hk | hk
                    · have := HLP.out k hk; omega
                    · have := HLH.out k hk; omega⟩)
                clear W3 O3 HS3 HX3 HB3 HP3 HR W1 O1 HGlt HWD HOLD HSZR BB
                obtain ⟨A8, ka8, R8, ra8, S8, sa8, hW8, _⟩ := HRP.out.u.run
                obtain ⟨zx, ⟨y0, y1, y2, y3, y4, y5⟩, f0, f1, f2, f3, f4, f5⟩ := hW8.1.six
                obtain ⟨A9, ka9, R9, ra9, S9, sa9, hW9, o0, o1, o2, _⟩ := HRP.out.next
                obtain ⟨_, ⟨e0, e1, e2, e3, e4, e5⟩, _⟩ := hW9.1.six
                obtain ⟨_, ⟨p1', p2', p3', p4', p5'⟩, _⟩ := HRP.out.out.five
                have W9 := Lib.hid hW9
                have OF9 := Lib.hid (And.intro o0 (And.intro o1 o2))
                have HPL := Lib.hid HRP.out.u.pile
                have HHL := Lib.hid HRP.out.u.held
                have hbel := HRP.out.u.below
                have hfar := HRP.out.far.1
                have nb : ¬ (w3.heap.size = b0) := by omega
                have nb' : ¬ (b0 = w3.heap.size) := fun e => nb e.symm
                have hglt := HRP.out.u.lt
                clear hW8 hW9 o0 o1 o2
                go_wp2_with fail
                go_roundw
                case rel => exact ⟨i + 1, G, [], hs, by omega, by go_num, HPT2.out, (HRP.out.u.put (by repeat (first | with_reducible assumption | with_reducible refine Below.drew ?_ | with_reducible refine below_al ?_ | (with_reducible refine below_set1 (by omega) _ ?_))) (by simp) (by repeat (first | with_reducible exact HPL.out | (with_reducible refine OwnI.apart ?_ _ _ _ (by omega)))) (by repeat (first | with_reducible exact HHL.out | (with_reducible refine OwnI.apart ?_ _ _ _ (by omega)))) ⟨A9, ka9, R9, ra9, S9, sa9, ⟨VarAt.of6 (by simp; omega) (by go_simp) (by go_simp) (by go_simp) (by go_simp) (by go_simp) (by go_simp) (by go_simp) (by go_simp) (by go_simp) (by go_simp) (by go_simp) (by go_simp), W9.out.2.1.keep (Q := Nt2 b0 (.slice pA kp pcap) (.slice vA k vcap)) (by repeat (first | with_reducible exact Keep.refl _ _ | with_reducible refine Keep.drew ?_ | with_reducible refine Keep.alloc ?_ _ | (with_reducible refine Keep.set ?_ _ _ _ (by unfold Nt2; omega)))) OF9.out.1, W9.out.2.2.1.keep (Q := Nt2 b0 (.slice pA kp pcap) (.slice vA k vcap)) (by repeat (first | with_reducible exact Keep.refl _ _ | with_reducible refine Keep.drew ?_ | with_reducible refine Keep.alloc ?_ _ | (with_reducible refine Keep.set ?_ _ _ _ (by unfold Nt2; omega)))) OF9.out.2.1, W9.out.2.2.2.keep (Q := Nt2 b0 (.slice pA kp pcap) (.slice vA k vcap)) (by repeat (first | with_reducible exact Keep.refl _ _ | with_reducible refine Keep.drew ?_ | with_reducible refine Keep.alloc ?_ _ | (with_reducible refine Keep.set ?_ _ _ _ (by unfold Nt2; omega)))) OF9.out.2.2⟩, OF9.out.1, OF9.out.2.1.keep W9.out.2.2.1 (Q := Nt2 b0 (.slice pA kp pcap) (.slice vA k vcap)) (by repeat (first | with_reducible exact Keep.refl _ _ | with_reducible refine Keep.drew ?_ | with_reducible refine Keep.alloc ?_ _ | (with_reducible refine Keep.set ?_ _ _ _ (by unfold Nt2; omega)))) OF9.out.2.1, OF9.out.2.2.keep W9.out.2.2.2 (Q := Nt2 b0 (.slice pA kp pcap) (.slice vA k vcap)) (by repeat (first | with_reducible exact Keep.refl _ _ | with_reducible refine Keep.drew ?_ | with_reducible refine Keep.alloc ?_ _ | (with_reducible refine Keep.set ?_ _ _ _ (by unfold Nt2; omega)))) OF9.out.2.2, fun P h => h.elim⟩)⟩
                case measure => simp [intOf]; omega
              | cons a l =>
                have hG : ∀ j, G j < 18446744073709551616 := by obtain ⟨_, _, _, _, _, _, hW, _⟩ := HWD.out; exact hW.2.1.1
                have HAL := HPOP G hG a l HPT.out.free (HPT.out.le a (by simp)).2
                have HPT2 := Lib.hid HPT.out.pop
                obtain ⟨kp1, rfl⟩ : ∃ kp1, kp = kp1 + 1 := ⟨kp - 1, by have := HKP.out; simp at this; omega⟩
                have HKQ : Hid (l.reverse.length = kp1) := Lib.hid (by have := HKP.out; simp at this ⊢; exact this)
                have hat : (a :: l).reverse[kp1]? = some a := by rw [List.reverse_cons, ← HKQ.out]; simp
                obtain ⟨pg, rfl, hpcap, _⟩ := HR.out.pile.at_ hat
                have HAT := Lib.hid hat
                generalize popG 1 G = G5 at *
                have dp : decide ((0 : Int) < (kp1 : Int) + 1) = true := by rw [decide_eq_true_iff]; omega
                have dp' : decide (0 < kp1 + 1) = true := by rw [decide_eq_true_iff]; omega
                have i2 : (0 : Int) ≤ (kp1 : Int) := by omega
                have i3 : (kp1 : Int) < (kp1 : Int) + 1 := by omega
                have hcut := run_cutI_h (some ⟨pg, 0, none⟩) (kp1 + 1) pcap kp1 (by omega)
                clear hG HPOP HNONE HPUSH HFREE hcells hpcells hat
                obtain ⟨A1, ka1, R1, ra1, S1, sa1, hW, o0, o1, o2, _⟩ := HWD.out
                have W1 := Lib.hid hW
                have O1 := Lib.hid (And.intro o0 (And.intro o1 o2))
                obtain ⟨c0, c1, c2, c3, c4, c5⟩ := hW.cells
                have HGlt := Lib.hid hW.1.1
                clear hW o0 o1 o2
                go_wp2_with fail
                (with_reducible refine (HAL A1 ka1 R1 ra1 S1 sa1 _ W1.out.gA W1.out.g0 W1.out.g1).mono ?_)
                clear HAL c0 c1 c2 c3 c4 c5
                rintro e w3 ⟨A3, ka3, R3, ra3, S3, sa3, rfl, ha, hs0, hs1, hb, hP⟩
                go_upto_region 17 with fail
                have hbx : Below w3.heap.size w3 ((w3.alloc (.cells #[.int .i64 1, .int .i64 (c : Int), .slice A3 n ka3, .int .u64 (r : Int), .slice R3 1 ra3, .slice S3 1 sa3] 51)).alloc (.cells #[.int .i64 0, .bool false, .int .i64 (a : Int), .int .u64 0, .slice none 0 0] 37)) := below_pair _ _ _
                have W3 := Lib.hid (WdAt.made (t := 1) (c := (c : Int)) (k := ka3) (r := r) (ra := ra3) (sa := sa3) w3 (.cells #[.int .i64 0, .bool false, .int .i64 (a : Int), .int .u64 0, .slice none 0 0] 37) 51 ha hs0 hs1)
                have O3 := Lib.hid (VarAt.made1 w3 (.cells #[.int .i64 1, .int .i64 (c : Int), .slice A3 n ka3, .int .u64 (r : Int), .slice R3 1 ra3, .slice S3 1 sa3] 51) #[.int .i64 0, .bool false, .int .i64 (a : Int), .int .u64 0, .slice none 0 0] 37)
                have hbn := hb.trans (hbx.mono hb.size)
                have HS3 := Lib.hid (And.intro hs0 hs1)
                have HX3 := Lib.hid hbx
                have HB3 := Lib.hid hb
                have HP3 := Lib.hid hP
                generalize (w3.alloc (.cells #[.int .i64 1, .int .i64 (c : Int), .slice A3 n ka3, .int .u64 (r : Int), .slice R3 1 ra3, .slice S3 1 sa3] 51)).alloc (.cells #[.int .i64 0, .bool false, .int .i64 (a : Int), .int .u64 0, .slice none 0 0] 37) = x3 at hbx hbn W3 O3 HX3 ⊢
                have HRn := Lib.hid (HR.out.later hbn); clear HR; have HR := HRn; clear HRn
                have BBn := Lib.hid (BB.out.trans (hbn.mono BB.out.size)); clear BB; have BB := BBn; clear BBn
                clear ha hs0 hs1 hb hP hbx hbn
                have HRP : Hid (RunP w b0 (b0 + 1) (c : Int) n r (.slice (some ⟨pg, 0, none⟩) (kp1 + 1) pcap) (.slice vA k vcap) (a :: l).reverse hs G w3.heap.size (w3.heap.size + 1) [.int .i64 0, .bool false, .int .i64 (a : Int), .int .u64 0, .slice none 0 0] G5 x3) := Lib.hid (by
                  obtain ⟨q0, q1, q2⟩ := HP3.out (Nt2 b0 (.slice (some ⟨pg, 0, none⟩) (kp1 + 1) pcap) (.slice vA k vcap)) ⟨fun b hb => HOLD.out b hb, O1.out.1, O1.out.2.1, O1.out.2.2⟩
                  have hw3 := HB3.out.size
                  have hsz := HSZR.out
                  exact ⟨HR.out, ⟨A3, ka3, R3, ra3, S3, sa3, W3.out, q0, q1.later HS3.out.1 HX3.out, q2.later HS3.out.2 HX3.out, fun P h => h.elim⟩, O3.out, ⟨by omega, by omega⟩, fun k hk => by
                    rcases hk with hk | hk
                    · have := HLP.out k hk; omega
                    · have := HLH.out k hk; omega⟩)
                clear W3 O3 HS3 HX3 HB3 HP3 HR W1 O1 HGlt HWD HOLD HSZR BB
                have r1 : x3.cell? ⟨pg, kp1, none⟩ = some (.int .i64 (a : Int)) := by
                  obtain ⟨g2, e, _, hcell⟩ := HRP.out.u.pile.at_ HAT.out
                  cases e
                  exact hcell
                have HZ : Hid (RunP w b0 (b0 + 1) (c : Int) n r (.slice (some ⟨pg, 0, none⟩) kp1 pcap) (.slice vA k vcap) l.reverse hs G w3.heap.size (w3.heap.size + 1) [.int .i64 0, .bool false, .int .i64 (a : Int), .int .u64 0, .slice none 0 0] G5 x3) := Lib.hid (by
                  have h := HRP.out.cutP (m := kp1) (by have := HKQ.out; simp at this ⊢; omega) (by simp)
                  rw [show (a :: l).reverse.take kp1 = l.reverse by rw [List.reverse_cons, ← HKQ.out]; simp] at h
                  exact h)
                have HLEN : Hid (hs.length ≤ 900000) := Lib.hid (by have := HKL.out; omega)
                clear HRP HAT
                go_upto_region 21 with fail
                clear r1 hcut
                have HM9 : Hid (hs.length ≤ 900000) := Lib.hid (HLEN.out)
                have HOA : Hid (∀ o, OwnI (x3.alloc o) (b0 + 1) (.slice vA k vcap) hs) := Lib.hid (fun o => (HZ.out.later (al_below x3 o)).u.held)
                have HZ1 : Hid (∀ o, b0 + 1 ≤ (x3.alloc o).heap.size) := Lib.hid (fun o => (HZ.out.later (al_below x3 o)).u.size)
                have HNX : Hid (∀ o v' w', OwnI w' (b0 + 1) v' (hs ++ [a]) → (x3.alloc o).grownBy w' (Value.ownBlock (.slice vA k vcap)) → (v'.ownBlock = (Value.ownBlock (.slice vA k vcap)) ∨ v'.ownBlock = some (x3.alloc o).heap.size) → RunP w b0 (b0 + 1) (c : Int) n r (.slice (some ⟨pg, 0, none⟩) kp1 pcap) v' l.reverse (hs ++ [a]) G w3.heap.size (w3.heap.size + 1) [.int .i64 0, .bool false, .int .i64 (a : Int), .int .u64 0, .slice none 0 0] G5 w') := Lib.hid (fun o v' w' h1 h2 h3 => (HZ.out.later (al_below x3 o)).nextH h1 h2 h3)
                clear HZ HLEN
                go_upto_region 22 with (at_builtin; (refine wpList_appendI (by rfl) (.tmp 80) (.tmp 82) (by rfl) (b0 + 1) (.slice vA k vcap) hs (by rfl) (HOA.out _) x3.heap.size 1 a (by rfl) (by go_simp) HM9.out (HZ1.out _) ?_); (intro v9 w9 hown9 hg9 hv9; have HZ := Lib.hid (HNX.out _ _ _ hown9 hg9 hv9); clear hown9 hg9 hv9 HNX HOA HZ1 HM9))
                obtain ⟨A8, ka8, R8, ra8, S8, sa8, hW8, _⟩ := HZ.out.u.run
                obtain ⟨zx, ⟨y0, y1, y2, y3, y4, y5⟩, f0, f1, f2, f3, f4, f5⟩ := hW8.1.six
                obtain ⟨A9, ka9, R9, ra9, S9, sa9, hW9, o0, o1, o2, _⟩ := HZ.out.next
                obtain ⟨_, ⟨e0, e1, e2, e3, e4, e5⟩, _⟩ := hW9.1.six
                obtain ⟨_, ⟨p1', p2', p3', p4', p5'⟩, _⟩ := HZ.out.out.five
                have W9 := Lib.hid hW9
                have OF9 := Lib.hid (And.intro o0 (And.intro o1 o2))
                have HPL := Lib.hid HZ.out.u.pile
                have HHL := Lib.hid HZ.out.u.held
                have hbel := HZ.out.u.below
                have hfar := HZ.out.far.1
                have nb : ¬ (w3.heap.size = b0) := by omega
                have nb' : ¬ (b0 = w3.heap.size) := fun e => nb e.symm
                have hglt := HZ.out.u.lt
                clear hW8 hW9 o0 o1 o2
                go_wp2_with fail
                go_roundw
                case rel => exact ⟨i + 1, G5, l, hs ++ [a], by omega, by go_num, HPT2.out, (HZ.out.u.put (by repeat (first | with_reducible assumption | with_reducible refine Below.drew ?_ | with_reducible refine below_al ?_ | (with_reducible refine below_set1 (by omega) _ ?_))) (by simp) (by repeat (first | with_reducible exact HPL.out | (with_reducible refine OwnI.apart ?_ _ _ _ (by omega)))) (by repeat (first | with_reducible exact HHL.out | (with_reducible refine OwnI.apart ?_ _ _ _ (by omega)))) ⟨A9, ka9, R9, ra9, S9, sa9, ⟨VarAt.of6 (by simp; omega) (by go_simp) (by go_simp) (by go_simp) (by go_simp) (by go_simp) (by go_simp) (by go_simp) (by go_simp) (by go_simp) (by go_simp) (by go_simp) (by go_simp), W9.out.2.1.keep (Q := Nt2 b0 (.slice (some ⟨pg, 0, none⟩) kp1 pcap) v9) (by repeat (first | with_reducible exact Keep.refl _ _ | with_reducible refine Keep.drew ?_ | with_reducible refine Keep.alloc ?_ _ | (with_reducible refine Keep.set ?_ _ _ _ (by unfold Nt2; omega)))) OF9.out.1, W9.out.2.2.1.keep (Q := Nt2 b0 (.slice (some ⟨pg, 0, none⟩) kp1 pcap) v9) (by repeat (first | with_reducible exact Keep.refl _ _ | with_reducible refine Keep.drew ?_ | with_reducible refine Keep.alloc ?_ _ | (with_reducible refine Keep.set ?_ _ _ _ (by unfold Nt2; omega)))) OF9.out.2.1, W9.out.2.2.2.keep (Q := Nt2 b0 (.slice (some ⟨pg, 0, none⟩) kp1 pcap) v9) (by repeat (first | with_reducible exact Keep.refl _ _ | with_reducible refine Keep.drew ?_ | with_reducible refine Keep.alloc ?_ _ | (with_reducible refine Keep.set ?_ _ _ _ (by unfold Nt2; omega)))) OF9.out.2.2⟩, OF9.out.1, OF9.out.2.1.keep W9.out.2.2.1 (Q := Nt2 b0 (.slice (some ⟨pg, 0, none⟩) kp1 pcap) v9) (by repeat (first | with_reducible exact Keep.refl _ _ | with_reducible refine Keep.drew ?_ | with_reducible refine Keep.alloc ?_ _ | (with_reducible refine Keep.set ?_ _ _ _ (by unfold Nt2; omega)))) OF9.out.2.1, OF9.out.2.2.keep W9.out.2.2.2 (Q := Nt2 b0 (.slice (some ⟨pg, 0, none⟩) kp1 pcap) v9) (by repeat (first | with_reducible exact Keep.refl _ _ | with_reducible refine Keep.drew ?_ | with_reducible refine Keep.alloc ?_ _ | (with_reducible refine Keep.set ?_ _ _ _ (by unfold Nt2; omega)))) OF9.out.2.2, fun P h => h.elim⟩)⟩
                case measure => simp [intOf]; omega
    
    
            · have dx : ((x : Int) % 2 == 0) = false := by rw [beq_eq_false_iff_ne]; omega
              have dk : ((k : Int) == 0) = true := by rw [beq_iff_eq]; omega
              have dk' : (k == 0) = true := by rw [beq_iff_eq]; omega
              clear hx1 hpop
              cases l with
              | nil =>
                have hG : ∀ j, G j < 18446744073709551616 := by obtain ⟨_, _, _, _, _, _, hW, _⟩ := HWD.out; exact hW.2.1.1
                have HAL := HNONE G hG HPT.out.free
                have HPT2 := HPT
                have dp : decide ((0 : Int) < (kp : Int)) = false := by have := HKP.out; simp at this; rw [decide_eq_false_iff_not]; omega
                have dp' : decide (0 < kp) = false := by have := HKP.out; simp at this; rw [decide_eq_false_iff_not]; omega
                clear hG HPOP HNONE HPUSH HFREE hcells hpcells
                obtain ⟨A1, ka1, R1, ra1, S1, sa1, hW, o0, o1, o2, _⟩ := HWD.out
                have W1 := Lib.hid hW
                have O1 := Lib.hid (And.intro o0 (And.intro o1 o2))
                obtain ⟨c0, c1, c2, c3, c4, c5⟩ := hW.cells
                have HGlt := Lib.hid hW.1.1
                clear hW o0 o1 o2
                go_wp2_with fail
                (with_reducible refine (HAL A1 ka1 R1 ra1 S1 sa1 _ W1.out.gA W1.out.g0 W1.out.g1).mono ?_)
                clear HAL c0 c1 c2 c3 c4 c5
                rintro e w3 ⟨A3, ka3, R3, ra3, S3, sa3, rfl, ha, hs0, hs1, hb, hP⟩
                go_upto_region 17 with fail
                have hbx : Below w3.heap.size w3 ((w3.alloc (.cells #[.int .i64 1, .int .i64 (c : Int), .slice A3 n ka3, .int .u64 (r : Int), .slice R3 1 ra3, .slice S3 1 sa3] 51)).alloc (.cells #[.int .i64 0, .bool false, .int .i64 0, .int .u64 0, .slice none 0 0] 37)) := below_pair _ _ _
                have W3 := Lib.hid (WdAt.made (t := 1) (c := (c : Int)) (k := ka3) (r := r) (ra := ra3) (sa := sa3) w3 (.cells #[.int .i64 0, .bool false, .int .i64 0, .int .u64 0, .slice none 0 0] 37) 51 ha hs0 hs1)
                have O3 := Lib.hid (VarAt.made1 w3 (.cells #[.int .i64 1, .int .i64 (c : Int), .slice A3 n ka3, .int .u64 (r : Int), .slice R3 1 ra3, .slice S3 1 sa3] 51) #[.int .i64 0, .bool false, .int .i64 0, .int .u64 0, .slice none 0 0] 37)
                have hbn := hb.trans (hbx.mono hb.size)
                have HS3 := Lib.hid (And.intro hs0 hs1)
                have HX3 := Lib.hid hbx
                have HB3 := Lib.hid hb
                have HP3 := Lib.hid hP
                generalize (w3.alloc (.cells #[.int .i64 1, .int .i64 (c : Int), .slice A3 n ka3, .int .u64 (r : Int), .slice R3 1 ra3, .slice S3 1 sa3] 51)).alloc (.cells #[.int .i64 0, .bool false, .int .i64 0, .int .u64 0, .slice none 0 0] 37) = x3 at hbx hbn W3 O3 HX3 ⊢
                have HRn := Lib.hid (HR.out.later hbn); clear HR; have HR := HRn; clear HRn
                have BBn := Lib.hid (BB.out.trans (hbn.mono BB.out.size)); clear BB; have BB := BBn; clear BBn
                clear ha hs0 hs1 hb hP hbx hbn
                have HRP : Hid (RunP w b0 (b0 + 1) (c : Int) n r (.slice pA kp pcap) (.slice vA k vcap) ([] : List Nat).reverse hs G w3.heap.size (w3.heap.size + 1) [.int .i64 0, .bool false, .int .i64 0, .int .u64 0, .slice none 0 0] G x3) := Lib.hid (by
                  obtain ⟨q0, q1, q2⟩ := HP3.out (Nt2 b0 (.slice pA kp pcap) (.slice vA k vcap)) ⟨fun b hb => HOLD.out b hb, O1.out.1, O1.out.2.1, O1.out.2.2⟩
                  have hw3 := HB3.out.size
                  have hsz := HSZR.out
                  exact ⟨HR.out, ⟨A3, ka3, R3, ra3, S3, sa3, W3.out, q0, q1.later HS3.out.1 HX3.out, q2.later HS3.out.2 HX3.out, fun P h => h.elim⟩, O3.out, ⟨by omega, by omega⟩, fun k hk => by
                    rcases hk with hk | hk
                    · have := HLP.out k hk; omega
                    · have := HLH.out k hk; omega⟩)
                clear W3 O3 HS3 HX3 HB3 HP3 HR W1 O1 HGlt HWD HOLD HSZR BB
                obtain ⟨A8, ka8, R8, ra8, S8, sa8, hW8, _⟩ := HRP.out.u.run
                obtain ⟨zx, ⟨y0, y1, y2, y3, y4, y5⟩, f0, f1, f2, f3, f4, f5⟩ := hW8.1.six
                obtain ⟨A9, ka9, R9, ra9, S9, sa9, hW9, o0, o1, o2, _⟩ := HRP.out.next
                obtain ⟨_, ⟨e0, e1, e2, e3, e4, e5⟩, _⟩ := hW9.1.six
                obtain ⟨_, ⟨p1', p2', p3', p4', p5'⟩, _⟩ := HRP.out.out.five
                have W9 := Lib.hid hW9
                have OF9 := Lib.hid (And.intro o0 (And.intro o1 o2))
                have HPL := Lib.hid HRP.out.u.pile
                have HHL := Lib.hid HRP.out.u.held
                have hbel := HRP.out.u.below
                have hfar := HRP.out.far.1
                have nb : ¬ (w3.heap.size = b0) := by omega
                have nb' : ¬ (b0 = w3.heap.size) := fun e => nb e.symm
                have hglt := HRP.out.u.lt
                clear hW8 hW9 o0 o1 o2
                go_wp2_with fail
                go_roundw
                case rel => exact ⟨i + 1, G, [], hs, by omega, by go_num, HPT2.out, (HRP.out.u.put (by repeat (first | with_reducible assumption | with_reducible refine Below.drew ?_ | with_reducible refine below_al ?_ | (with_reducible refine below_set1 (by omega) _ ?_))) (by simp) (by repeat (first | with_reducible exact HPL.out | (with_reducible refine OwnI.apart ?_ _ _ _ (by omega)))) (by repeat (first | with_reducible exact HHL.out | (with_reducible refine OwnI.apart ?_ _ _ _ (by omega)))) ⟨A9, ka9, R9, ra9, S9, sa9, ⟨VarAt.of6 (by simp; omega) (by go_simp) (by go_simp) (by go_simp) (by go_simp) (by go_simp) (by go_simp) (by go_simp) (by go_simp) (by go_simp) (by go_simp) (by go_simp) (by go_simp), W9.out.2.1.keep (Q := Nt2 b0 (.slice pA kp pcap) (.slice vA k vcap)) (by repeat (first | with_reducible exact Keep.refl _ _ | with_reducible refine Keep.drew ?_ | with_reducible refine Keep.alloc ?_ _ | (with_reducible refine Keep.set ?_ _ _ _ (by unfold Nt2; omega)))) OF9.out.1, W9.out.2.2.1.keep (Q := Nt2 b0 (.slice pA kp pcap) (.slice vA k vcap)) (by repeat (first | with_reducible exact Keep.refl _ _ | with_reducible refine Keep.drew ?_ | with_reducible refine Keep.alloc ?_ _ | (with_reducible refine Keep.set ?_ _ _ _ (by unfold Nt2; omega)))) OF9.out.2.1, W9.out.2.2.2.keep (Q := Nt2 b0 (.slice pA kp pcap) (.slice vA k vcap)) (by repeat (first | with_reducible exact Keep.refl _ _ | with_reducible refine Keep.drew ?_ | with_reducible refine Keep.alloc ?_ _ | (with_reducible refine Keep.set ?_ _ _ _ (by unfold Nt2; omega)))) OF9.out.2.2⟩, OF9.out.1, OF9.out.2.1.keep W9.out.2.2.1 (Q := Nt2 b0 (.slice pA kp pcap) (.slice vA k vcap)) (by repeat (first | with_reducible exact Keep.refl _ _ | with_reducible refine Keep.drew ?_ | with_reducible refine Keep.alloc ?_ _ | (with_reducible refine Keep.set ?_ _ _ _ (by unfold Nt2; omega)))) OF9.out.2.1, OF9.out.2.2.keep W9.out.2.2.2 (Q := Nt2 b0 (.slice pA kp pcap) (.slice vA k vcap)) (by repeat (first | with_reducible exact Keep.refl _ _ | with_reducible refine Keep.drew ?_ | with_reducible refine Keep.alloc ?_ _ | (with_reducible refine Keep.set ?_ _ _ _ (by unfold Nt2; omega)))) OF9.out.2.2, fun P h => h.elim⟩)⟩
                case measure => simp [intOf]; omega
              | cons a l =>
                have hG : ∀ j, G j < 18446744073709551616 := by obtain ⟨_, _, _, _, _, _, hW, _⟩ := HWD.out; exact hW.2.1.1
                have HAL := HPOP G hG a l HPT.out.free (HPT.out.le a (by simp)).2
                have HPT2 := Lib.hid HPT.out.pop
                obtain ⟨kp1, rfl⟩ : ∃ kp1, kp = kp1 + 1 := ⟨kp - 1, by have := HKP.out; simp at this; omega⟩
                have HKQ : Hid (l.reverse.length = kp1) := Lib.hid (by have := HKP.out; simp at this ⊢; exact this)
                have hat : (a :: l).reverse[kp1]? = some a := by rw [List.reverse_cons, ← HKQ.out]; simp
                obtain ⟨pg, rfl, hpcap, _⟩ := HR.out.pile.at_ hat
                have HAT := Lib.hid hat
                generalize popG 1 G = G5 at *
                have dp : decide ((0 : Int) < (kp1 : Int) + 1) = true := by rw [decide_eq_true_iff]; omega
                have dp' : decide (0 < kp1 + 1) = true := by rw [decide_eq_true_iff]; omega
                have i2 : (0 : Int) ≤ (kp1 : Int) := by omega
                have i3 : (kp1 : Int) < (kp1 : Int) + 1 := by omega
                have hcut := run_cutI_h (some ⟨pg, 0, none⟩) (kp1 + 1) pcap kp1 (by omega)
                clear hG HPOP HNONE HPUSH HFREE hcells hpcells hat
                obtain ⟨A1, ka1, R1, ra1, S1, sa1, hW, o0, o1, o2, _⟩ := HWD.out
                have W1 := Lib.hid hW
                have O1 := Lib.hid (And.intro o0 (And.intro o1 o2))
                obtain ⟨c0, c1, c2, c3, c4, c5⟩ := hW.cells
                have HGlt := Lib.hid hW.1.1
                clear hW o0 o1 o2
                go_wp2_with fail
                (with_reducible refine (HAL A1 ka1 R1 ra1 S1 sa1 _ W1.out.gA W1.out.g0 W1.out.g1).mono ?_)
                clear HAL c0 c1 c2 c3 c4 c5
                rintro e w3 ⟨A3, ka3, R3, ra3, S3, sa3, rfl, ha, hs0, hs1, hb, hP⟩
                go_upto_region 17 with fail
                have hbx : Below w3.heap.size w3 ((w3.alloc (.cells #[.int .i64 1, .int .i64 (c : Int), .slice A3 n ka3, .int .u64 (r : Int), .slice R3 1 ra3, .slice S3 1 sa3] 51)).alloc (.cells #[.int .i64 0, .bool false, .int .i64 (a : Int), .int .u64 0, .slice none 0 0] 37)) := below_pair _ _ _
                have W3 := Lib.hid (WdAt.made (t := 1) (c := (c : Int)) (k := ka3) (r := r) (ra := ra3) (sa := sa3) w3 (.cells #[.int .i64 0, .bool false, .int .i64 (a : Int), .int .u64 0, .slice none 0 0] 37) 51 ha hs0 hs1)
                have O3 := Lib.hid (VarAt.made1 w3 (.cells #[.int .i64 1, .int .i64 (c : Int), .slice A3 n ka3, .int .u64 (r : Int), .slice R3 1 ra3, .slice S3 1 sa3] 51) #[.int .i64 0, .bool false, .int .i64 (a : Int), .int .u64 0, .slice none 0 0] 37)
                have hbn := hb.trans (hbx.mono hb.size)
                have HS3 := Lib.hid (And.intro hs0 hs1)
                have HX3 := Lib.hid hbx
                have HB3 := Lib.hid hb
                have HP3 := Lib.hid hP
                generalize (w3.alloc (.cells #[.int .i64 1, .int .i64 (c : Int), .slice A3 n ka3, .int .u64 (r : Int), .slice R3 1 ra3, .slice S3 1 sa3] 51)).alloc (.cells #[.int .i64 0, .bool false, .int .i64 (a : Int), .int .u64 0, .slice none 0 0] 37) = x3 at hbx hbn W3 O3 HX3 ⊢
                have HRn := Lib.hid (HR.out.later hbn); clear HR; have HR := HRn; clear HRn
                have BBn := Lib.hid (BB.out.trans (hbn.mono BB.out.size)); clear BB; have BB := BBn; clear BBn
                clear ha hs0 hs1 hb hP hbx hbn
                have HRP : Hid (RunP w b0 (b0 + 1) (c : Int) n r (.slice (some ⟨pg, 0, none⟩) (kp1 + 1) pcap) (.slice vA k vcap) (a :: l).reverse hs G w3.heap.size (w3.heap.size + 1) [.int .i64 0, .bool false, .int .i64 (a : Int), .int .u64 0, .slice none 0 0] G5 x3) := Lib.hid (by
                  obtain ⟨q0, q1, q2⟩ := HP3.out (Nt2 b0 (.slice (some ⟨pg, 0, none⟩) (kp1 + 1) pcap) (.slice vA k vcap)) ⟨fun b hb => HOLD.out b hb, O1.out.1, O1.out.2.1, O1.out.2.2⟩
                  have hw3 := HB3.out.size
                  have hsz := HSZR.out
                  exact ⟨HR.out, ⟨A3, ka3, R3, ra3, S3, sa3, W3.out, q0, q1.later HS3.out.1 HX3.out, q2.later HS3.out.2 HX3.out, fun P h => h.elim⟩, O3.out, ⟨by omega, by omega⟩, fun k hk => by
                    rcases hk with hk | hk
                    · have := HLP.out k hk; omega
                    · have := HLH.out k hk; omega⟩)
                clear W3 O3 HS3 HX3 HB3 HP3 HR W1 O1 HGlt HWD HOLD HSZR BB
                have r1 : x3.cell? ⟨pg, kp1, none⟩ = some (.int .i64 (a : Int)) := by
                  obtain ⟨g2, e, _, hcell⟩ := HRP.out.u.pile.at_ HAT.out
                  cases e
                  exact hcell
                have HZ : Hid (RunP w b0 (b0 + 1) (c : Int) n r (.slice (some ⟨pg, 0, none⟩) kp1 pcap) (.slice vA k vcap) l.reverse hs G w3.heap.size (w3.heap.size + 1) [.int .i64 0, .bool false, .int .i64 (a : Int), .int .u64 0, .slice none 0 0] G5 x3) := Lib.hid (by
                  have h := HRP.out.cutP (m := kp1) (by have := HKQ.out; simp at this ⊢; omega) (by simp)
                  rw [show (a :: l).reverse.take kp1 = l.reverse by rw [List.reverse_cons, ← HKQ.out]; simp] at h
                  exact h)
                have HLEN : Hid (hs.length ≤ 900000) := Lib.hid (by have := HKL.out; omega)
                clear HRP HAT
                go_upto_region 21 with fail
                clear r1 hcut
                have HM9 : Hid (hs.length ≤ 900000) := Lib.hid (HLEN.out)
                have HOA : Hid (∀ o, OwnI (x3.alloc o) (b0 + 1) (.slice vA k vcap) hs) := Lib.hid (fun o => (HZ.out.later (al_below x3 o)).u.held)
                have HZ1 : Hid (∀ o, b0 + 1 ≤ (x3.alloc o).heap.size) := Lib.hid (fun o => (HZ.out.later (al_below x3 o)).u.size)
                have HNX : Hid (∀ o v' w', OwnI w' (b0 + 1) v' (hs ++ [a]) → (x3.alloc o).grownBy w' (Value.ownBlock (.slice vA k vcap)) → (v'.ownBlock = (Value.ownBlock (.slice vA k vcap)) ∨ v'.ownBlock = some (x3.alloc o).heap.size) → RunP w b0 (b0 + 1) (c : Int) n r (.slice (some ⟨pg, 0, none⟩) kp1 pcap) v' l.reverse (hs ++ [a]) G w3.heap.size (w3.heap.size + 1) [.int .i64 0, .bool false, .int .i64 (a : Int), .int .u64 0, .slice none 0 0] G5 w') := Lib.hid (fun o v' w' h1 h2 h3 => (HZ.out.later (al_below x3 o)).nextH h1 h2 h3)
                clear HZ HLEN
                go_upto_region 22 with (at_builtin; (refine wpList_appendI (by rfl) (.tmp 80) (.tmp 82) (by rfl) (b0 + 1) (.slice vA k vcap) hs (by rfl) (HOA.out _) x3.heap.size 1 a (by rfl) (by go_simp) HM9.out (HZ1.out _) ?_); (intro v9 w9 hown9 hg9 hv9; have HZ := Lib.hid (HNX.out _ _ _ hown9 hg9 hv9); clear hown9 hg9 hv9 HNX HOA HZ1 HM9))
                obtain ⟨A8, ka8, R8, ra8, S8, sa8, hW8, _⟩ := HZ.out.u.run
                obtain ⟨zx, ⟨y0, y1, y2, y3, y4, y5⟩, f0, f1, f2, f3, f4, f5⟩ := hW8.1.six
                obtain ⟨A9, ka9, R9, ra9, S9, sa9, hW9, o0, o1, o2, _⟩ := HZ.out.next
                obtain ⟨_, ⟨e0, e1, e2, e3, e4, e5⟩, _⟩ := hW9.1.six
                obtain ⟨_, ⟨p1', p2', p3', p4', p5'⟩, _⟩ := HZ.out.out.five
                have W9 := Lib.hid hW9
                have OF9 := Lib.hid (And.intro o0 (And.intro o1 o2))
                have HPL := Lib.hid HZ.out.u.pile
                have HHL := Lib.hid HZ.out.u.held
                have hbel := HZ.out.u.below
                have hfar := HZ.out.far.1
                have nb : ¬ (w3.heap.size = b0) := by omega
                have nb' : ¬ (b0 = w3.heap.size) := fun e => nb e.symm
                have hglt := HZ.out.u.lt
                clear hW8 hW9 o0 o1 o2
                go_wp2_with fail
                go_roundw
                case rel => exact ⟨i + 1, G5, l, hs ++ [a], by omega, by go_num, HPT2.out, (HZ.out.u.put (by repeat (first | with_reducible assumption | with_reducible refine Below.drew ?_ | with_reducible refine below_al ?_ | (with_reducible refine below_set1 (by omega) _ ?_))) (by simp) (by repeat (first | with_reducible exact HPL.out | (with_reducible refine OwnI.apart ?_ _ _ _ (by omega)))) (by repeat (first | with_reducible exact HHL.out | (with_reducible refine OwnI.apart ?_ _ _ _ (by omega)))) ⟨A9, ka9, R9, ra9, S9, sa9, ⟨VarAt.of6 (by simp; omega) (by go_simp) (by go_simp) (by go_simp) (by go_simp) (by go_simp) (by go_simp) (by go_simp) (by go_simp) (by go_simp) (by go_simp) (by go_simp) (by go_simp), W9.out.2.1.keep (Q := Nt2 b0 (.slice (some ⟨pg, 0, none⟩) kp1 pcap) v9) (by repeat (first | with_reducible exact Keep.refl _ _ | with_reducible refine Keep.drew ?_ | with_reducible refine Keep.alloc ?_ _ | (with_reducible refine Keep.set ?_ _ _ _ (by unfold Nt2; omega)))) OF9.out.1, W9.out.2.2.1.keep (Q := Nt2 b0 (.slice (some ⟨pg, 0, none⟩) kp1 pcap) v9) (by repeat (first | with_reducible exact Keep.refl _ _ | with_reducible refine Keep.drew ?_ | with_reducible refine Keep.alloc ?_ _ | (with_reducible refine Keep.set ?_ _ _ _ (by unfold Nt2; omega)))) OF9.out.2.1, W9.out.2.2.2.keep (Q := Nt2 b0 (.slice (some ⟨pg, 0, none⟩) kp1 pcap) v9) (by repeat (first | with_reducible exact Keep.refl _ _ | with_reducible refine Keep.drew ?_ | with_reducible refine Keep.alloc ?_ _ | (with_reducible refine Keep.set ?_ _ _ _ (by unfold Nt2; omega)))) OF9.out.2.2⟩, OF9.out.1, OF9.out.2.1.keep W9.out.2.2.1 (Q := Nt2 b0 (.slice (some ⟨pg, 0, none⟩) kp1 pcap) v9) (by repeat (first | with_reducible exact Keep.refl _ _ | with_reducible refine Keep.drew ?_ | with_reducible refine Keep.alloc ?_ _ | (with_reducible refine Keep.set ?_ _ _ _ (by unfold Nt2; omega)))) OF9.out.2.1, OF9.out.2.2.keep W9.out.2.2.2 (Q := Nt2 b0 (.slice (some ⟨pg, 0, none⟩) kp1 pcap) v9) (by repeat (first | with_reducible exact Keep.refl _ _ | with_reducible refine Keep.drew ?_ | with_reducible refine Keep.alloc ?_ _ | (with_reducible refine Keep.set ?_ _ _ _ (by unfold Nt2; omega)))) OF9.out.2.2, fun P h => h.elim⟩)⟩
                case measure => simp [intOf]; omega
    
    
          · have hk0 : 0 < k := by omega
            have dx : ((x : Int) % 2 == 0) = false := by rw [beq_eq_false_iff_ne]; omega
            have dk : ((k : Int) == 0) = false := by rw [beq_eq_false_iff_ne]; omega
            have dk' : (k == 0) = false := by rw [beq_eq_false_iff_ne]; omega
            obtain ⟨m, hm⟩ : ∃ m, x / 2 % k = m := ⟨_, rfl⟩
            have hmk : m < k := by rw [← hm]; exact Nat.mod_lt _ hk0
            have hq3 : (x : Int) / 2 % (k : Int) = (m : Int) := by rw [← hm, Int.natCast_emod, Int.natCast_ediv]; rfl
            obtain ⟨q, hq⟩ : ∃ q, hs[m]? = some q := ⟨_, List.getElem?_eq_getElem (by rw [HKL.out]; exact hmk)⟩
            have HQ := Lib.hid hq
            obtain ⟨g, rfl, hvcap, r1⟩ := HR.out.held.at_ hq
            have hqm := HPT.out.le q (List.mem_append_right _ (List.mem_of_getElem? hq))
            have hG : ∀ j, G j < 18446744073709551616 := by obtain ⟨_, _, _, _, _, _, hW, _⟩ := HWD.out; exact hW.2.1.1
            have HPU := HPUSH G hG q hqm.1 hqm.2
            have HPT2 := Lib.hid (HPT.out.push (perm_at hq) (by have := HCK.out; omega))
            generalize pushG 1 q G = G5 at *
            have i2 : (0 : Int) ≤ (m : Int) := by omega
            have i3 : (m : Int) < (k : Int) := by omega
            clear hpop hqm hG hq hm hk0 HPOP HNONE HPUSH HFREE hcells hpcells
            go_upto_region 27 with fail
            rw [hq3]
            clear r1 hq3
            obtain ⟨A1, ka1, R1, ra1, S1, sa1, hW, o0, o1, o2, _⟩ := HWD.out
            have W1 := Lib.hid hW
            have O1 := Lib.hid (And.intro o0 (And.intro o1 o2))
            obtain ⟨c0, c1, c2, c3, c4, c5⟩ := hW.cells
            have HGlt := Lib.hid hW.1.1
            clear hW o0 o1 o2
            go_wp2_with fail
            (with_reducible refine (HPU A1 ka1 R1 ra1 S1 sa1 _ W1.out.gA W1.out.g0 W1.out.g1).mono ?_)
            clear HPU c0 c1 c2 c3 c4 c5
            rintro e w3 ⟨A3, ka3, R3, ra3, S3, sa3, rfl, ha, hs0, hs1, hb, hP⟩
            go_upto_region 30 with fail
            have hbx : Below w3.heap.size w3 ((w3.alloc (.cells #[.int .i64 1, .int .i64 (c : Int), .slice A3 n ka3, .int .u64 (r : Int), .slice R3 1 ra3, .slice S3 1 sa3] 51)).alloc (.cells #[.int .i64 0, .bool false, .int .i64 0, .int .u64 0, .slice none 0 0] 37)) := below_pair _ _ _
            have W3 := Lib.hid (WdAt.made (t := 1) (c := (c : Int)) (k := ka3) (r := r) (ra := ra3) (sa := sa3) w3 (.cells #[.int .i64 0, .bool false, .int .i64 0, .int .u64 0, .slice none 0 0] 37) 51 ha hs0 hs1)
            have O3 := Lib.hid (VarAt.made1 w3 (.cells #[.int .i64 1, .int .i64 (c : Int), .slice A3 n ka3, .int .u64 (r : Int), .slice R3 1 ra3, .slice S3 1 sa3] 51) #[.int .i64 0, .bool false, .int .i64 0, .int .u64 0, .slice none 0 0] 37)
            have hbn := hb.trans (hbx.mono hb.size)
            have HS3 := Lib.hid (And.intro hs0 hs1)
            have HX3 := Lib.hid hbx
            have HB3 := Lib.hid hb
            have HP3 := Lib.hid hP
            generalize (w3.alloc (.cells #[.int .i64 1, .int .i64 (c : Int), .slice A3 n ka3, .int .u64 (r : Int), .slice R3 1 ra3, .slice S3 1 sa3] 51)).alloc (.cells #[.int .i64 0, .bool false, .int .i64 0, .int .u64 0, .slice none 0 0] 37) = x3 at hbx hbn W3 O3 HX3 ⊢
            have HRn := Lib.hid (HR.out.later hbn); clear HR; have HR := HRn; clear HRn
            have BBn := Lib.hid (BB.out.trans (hbn.mono BB.out.size)); clear BB; have BB := BBn; clear BBn
            clear ha hs0 hs1 hb hP hbx hbn
            have HRP : Hid (RunP w b0 (b0 + 1) (c : Int) n r (.slice pA kp pcap) (.slice (some ⟨g, 0, none⟩) k vcap) l.reverse hs G w3.heap.size (w3.heap.size + 1) [.int .i64 0, .bool false, .int .i64 0, .int .u64 0, .slice none 0 0] G5 x3) := Lib.hid (by
              obtain ⟨q0, q1, q2⟩ := HP3.out (Nt2 b0 (.slice pA kp pcap) (.slice (some ⟨g, 0, none⟩) k vcap)) ⟨fun b hb => HOLD.out b hb, O1.out.1, O1.out.2.1, O1.out.2.2⟩
              have hw3 := HB3.out.size
              have hsz := HSZR.out
              exact ⟨HR.out, ⟨A3, ka3, R3, ra3, S3, sa3, W3.out, q0, q1.later HS3.out.1 HX3.out, q2.later HS3.out.2 HX3.out, fun P h => h.elim⟩, O3.out, ⟨by omega, by omega⟩, fun k hk => by
                rcases hk with hk | hk
                · have := HLP.out k hk; omega
                · have := HLH.out k hk; omega⟩)
            clear W3 O3 HS3 HX3 HB3 HP3 HR W1 O1 HGlt HWD HOLD HSZR BB
            have HFT : Hid (RowI x3 ⟨g, 0, none⟩ m (hs.take m)) := Lib.hid (by
              have h := HRP.out.u.held
              rw [← HKL.out] at h
              exact h.front (by rw [HKL.out]; omega))
            obtain ⟨ad, had, hal⟩ : ∃ ad, (∀ W, (Instr.slice 35 (.slice (some ⟨g, 0, none⟩) k vcap) (some (.int .i64 ((m : Int) + 1))) none none).run Try.prog W = .ok (.slice (some ad) (k - (m + 1)) (vcap - (m + 1))) W) ∧ RowI x3 ad (k - (m + 1)) (hs.drop (m + 1)) := by
              have h := HRP.out.u.held
              rw [← HKL.out] at h
              have h2 := h.back (k := m + 1) (by rw [HKL.out]; omega)
              rw [HKL.out] at h2
              exact h2
            have HBK : Hid (RowI x3 ad (k - (m + 1)) (hs.drop (m + 1))) := Lib.hid hal
            clear hal
            have hcut := run_cutI_h (some ⟨g, 0, none⟩) k vcap m (by omega)
            have hw1 : IntKind.i64.wrap ((m : Int) + 1) = (m : Int) + 1 := by rw [IntKind.wrap_i64]; omega
            have b1 : (m : Int) ≤ (vcap : Int) := by omega
            have b2 : (m : Int) + 1 ≤ (k : Int) := by omega
            have b3 : (0 : Int) ≤ (m : Int) + 1 := by omega
            have b4 : (k : Int) ≤ (vcap : Int) := by omega
            go_region_held3 (fun w' => Below x3.heap.size x3 w') (first | assumption | (exact Below.drew (Below.refl _ _)) | (exact Below.drew (by assumption)) | (exact (fun h => Below.alloc h h.size _) (by assumption)))
              (first
                | (refine step_appendI (w0 := x3) (by assumption) (by rfl) (.tmp 116) (.tmp 119) (by rfl) _ [] (by rfl) (show OwnI ((x3.alloc (.cells #[] 3)).drew) x3.heap.size _ [] from (OwnI.made x3).drew) ⟨g, 0, none⟩ m vcap (hs.take m) (by rfl) (HFT.out.below (by assumption)) (by simp; omega) ?_; intro v2 w2 hown2 hB2; have HO2 : Hid (OwnI w2 x3.heap.size v2 (hs.take m)) := hown2; clear hown2)
                | (refine step_appendI (w0 := x3) (by assumption) (by rfl) (.tmp 120) (.tmp 124) (by rfl) v2 (hs.take m) (by rfl) HO2.out ad (k - (m + 1)) (vcap - (m + 1)) (hs.drop (m + 1)) (by rfl) (HBK.out.below (by assumption)) (by rw [HFT.out.1]; omega) ?_; intro v3 w5 hown3 hB3; have HO3 : Hid (OwnI w5 x3.heap.size v3 (hs.take m ++ hs.drop (m + 1))) := hown3; clear hown3))
            have HZ : Hid (RunP w b0 (b0 + 1) (c : Int) n r (.slice pA kp pcap) v3 l.reverse (hs.take m ++ hs.drop (m + 1)) G w3.heap.size (w3.heap.size + 1) [.int .i64 0, .bool false, .int .i64 0, .int .u64 0, .slice none 0 0] G5 w5) := Lib.hid (HRP.out.newH hB3 HO3.out)
            have HLEN : Hid (l.reverse.length ≤ 900000) := Lib.hid (by have := HKP.out; omega)
            clear HRP HO3 HO2 HFT HBK hcut had hw1 b1 b2 b3 b4 hB3
            have HM9 : Hid (l.reverse.length ≤ 900000) := Lib.hid (HLEN.out)
            have HOA : Hid (∀ o, OwnI (w5.alloc o) (b0 + 1) (.slice pA kp pcap) l.reverse) := Lib.hid (fun o => (HZ.out.later (al_below w5 o)).u.pile)
            have HZ1 : Hid (∀ o, b0 + 1 ≤ (w5.alloc o).heap.size) := Lib.hid (fun o => (HZ.out.later (al_below w5 o)).u.size)
            have HNX : Hid (∀ o v' w', OwnI w' (b0 + 1) v' (l.reverse ++ [q]) → (w5.alloc o).grownBy w' (Value.ownBlock (.slice pA kp pcap)) → (v'.ownBlock = (Value.ownBlock (.slice pA kp pcap)) ∨ v'.ownBlock = some (w5.alloc o).heap.size) → RunP w b0 (b0 + 1) (c : Int) n r v' v3 (l.reverse ++ [q]) (hs.take m ++ hs.drop (m + 1)) G w3.heap.size (w3.heap.size + 1) [.int .i64 0, .bool false, .int .i64 0, .int .u64 0, .slice none 0 0] G5 w') := Lib.hid (fun o v' w' h1 h2 h3 => (HZ.out.later (al_below w5 o)).nextP h1 h2 h3)
            clear HZ HLEN
            go_upto_region 32 with (at_builtin; (refine wpList_appendI (by rfl) (.tmp 126) (.tmp 128) (by rfl) (b0 + 1) (.slice pA kp pcap) l.reverse (by rfl) (HOA.out _) w5.heap.size 1 q (by rfl) (by go_simp) HM9.out (HZ1.out _) ?_); (intro v9 w9 hown9 hg9 hv9; have HZ := Lib.hid (HNX.out _ _ _ hown9 hg9 hv9); clear hown9 hg9 hv9 HNX HOA HZ1 HM9))
            have hz := HZ.out
            rw [show l.reverse ++ [q] = (q :: l).reverse from List.reverse_cons.symm] at hz
            clear HZ
            have HZ := Lib.hid hz
            clear hz
            obtain ⟨A8, ka8, R8, ra8, S8, sa8, hW8, _⟩ := HZ.out.u.run
            obtain ⟨zx, ⟨y0, y1, y2, y3, y4, y5⟩, f0, f1, f2, f3, f4, f5⟩ := hW8.1.six
            obtain ⟨A9, ka9, R9, ra9, S9, sa9, hW9, o0, o1, o2, _⟩ := HZ.out.next
            obtain ⟨_, ⟨e0, e1, e2, e3, e4, e5⟩, _⟩ := hW9.1.six
            obtain ⟨_, ⟨p1', p2', p3', p4', p5'⟩, _⟩ := HZ.out.out.five
            have W9 := Lib.hid hW9
            have OF9 := Lib.hid (And.intro o0 (And.intro o1 o2))
            have HPL := Lib.hid HZ.out.u.pile
            have HHL := Lib.hid HZ.out.u.held
            have hbel := HZ.out.u.below
            have hfar := HZ.out.far.1
            have nb : ¬ (w3.heap.size = b0) := by omega
            have nb' : ¬ (b0 = w3.heap.size) := fun e => nb e.symm
            have hglt := HZ.out.u.lt
            clear hW8 hW9 o0 o1 o2
            go_wp2_with fail
            go_roundw
            case rel => exact ⟨i + 1, G5, q :: l, hs.take m ++ hs.drop (m + 1), by omega, by go_num, HPT2.out, (HZ.out.u.put (by repeat (first | with_reducible assumption | with_reducible refine Below.drew ?_ | with_reducible refine below_al ?_ | (with_reducible refine below_set1 (by omega) _ ?_))) (by simp) (by repeat (first | with_reducible exact HPL.out | (with_reducible refine OwnI.apart ?_ _ _ _ (by omega)))) (by repeat (first | with_reducible exact HHL.out | (with_reducible refine OwnI.apart ?_ _ _ _ (by omega)))) ⟨A9, ka9, R9, ra9, S9, sa9, ⟨VarAt.of6 (by simp; omega) (by go_simp) (by go_simp) (by go_simp) (by go_simp) (by go_simp) (by go_simp) (by go_simp) (by go_simp) (by go_simp) (by go_simp) (by go_simp) (by go_simp), W9.out.2.1.keep (Q := Nt2 b0 v9 v3) (by repeat (first | with_reducible exact Keep.refl _ _ | with_reducible refine Keep.drew ?_ | with_reducible refine Keep.alloc ?_ _ | (with_reducible refine Keep.set ?_ _ _ _ (by unfold Nt2; omega)))) OF9.out.1, W9.out.2.2.1.keep (Q := Nt2 b0 v9 v3) (by repeat (first | with_reducible exact Keep.refl _ _ | with_reducible refine Keep.drew ?_ | with_reducible refine Keep.alloc ?_ _ | (with_reducible refine Keep.set ?_ _ _ _ (by unfold Nt2; omega)))) OF9.out.2.1, W9.out.2.2.2.keep (Q := Nt2 b0 v9 v3) (by repeat (first | with_reducible exact Keep.refl _ _ | with_reducible refine Keep.drew ?_ | with_reducible refine Keep.alloc ?_ _ | (with_reducible refine Keep.set ?_ _ _ _ (by unfold Nt2; omega)))) OF9.out.2.2⟩, OF9.out.1, OF9.out.2.1.keep W9.out.2.2.1 (Q := Nt2 b0 v9 v3) (by repeat (first | with_reducible exact Keep.refl _ _ | with_reducible refine Keep.drew ?_ | with_reducible refine Keep.alloc ?_ _ | (with_reducible refine Keep.set ?_ _ _ _ (by unfold Nt2; omega)))) OF9.out.2.1, OF9.out.2.2.keep W9.out.2.2.2 (Q := Nt2 b0 v9 v3) (by repeat (first | with_reducible exact Keep.refl _ _ | with_reducible refine Keep.drew ?_ | with_reducible refine Keep.alloc ?_ _ | (with_reducible refine Keep.set ?_ _ _ _ (by unfold Nt2; omega)))) OF9.out.2.2, fun P h => h.elim⟩)⟩
            case measure => simp [intOf]; omega
    
    
        · obtain rfl : i = ln := by omega
          have d1 : decide ((i : Int) < (i : Int)) = false := by rw [decide_eq_false_iff_not]; omega
          have d1' : decide (i < i) = false := by rw [decide_eq_false_iff_not]; omega
          obtain ⟨A1, ka1, R1, ra1, S1, sa1, hW, o0, o1, o2, _⟩ := HWD.out
          have W1 := Lib.hid hW
          have O1 := Lib.hid (And.intro o0 (And.intro o1 o2))
          obtain ⟨c0, c1, c2, c3, c4, c5⟩ := hW.cells
          have HGlt := Lib.hid hW.1.1
          clear hW o0 o1 o2
          have hle := HPT.out.le
          have hlen := HPT.out.len
          have hcc := HCK.out
          have HFR := HFREE A1 ka1 G l HPT.out.free (fun a ha => (hle a (List.mem_append_left _ ha)).2) (by omega)
          obtain ⟨L, hL⟩ : ∃ L, l.length = L := ⟨_, rfl⟩
          have hL12 : L ≤ 12 := by omega
          have hrl : l.reverse.length = L := by rw [List.length_reverse]; exact hL
          have HPI := Lib.hid HR.out.pile
          rw [hrl] at HPI ⊢
          have HLL := Lib.hid hL
          have dl : ((L : Int) == (L : Int)) = true := by rw [beq_iff_eq]
          clear hle hlen hL hrl hll hhl hpc hpcells HPOP HNONE HPUSH HFREE hcells HR HOLD HSZR
          go_wp2_with fail
          (with_reducible refine (HFR _ W1.out.gA).mono ?_)
          clear HFR c0 c1 c2 c3 c4 c5
          rintro e w2 ⟨v21, rfl, hown, hb⟩
          have HPIn := Lib.hid (HPI.out.later hb); clear HPI; have HPI := HPIn; clear HPIn
          have BBn := Lib.hid (BB.out.trans (hb.mono BB.out.size)); clear BB; have BB := BBn; clear BBn
          obtain ⟨a13, cap13, rfl, _, _, _⟩ := hown.form
          have HFO := Lib.hid hown
          rw [HLL.out] at HFO ⊢
          clear hown hb
          go_wp2_with fail
          go_loopw [22] (fun u wr => ∃ j : Nat, j ≤ L ∧ u = .int .i64 (j : Int) ∧ Below w2.heap.size w2 wr) (fun u _ => L - (intOf u).toNat)
          case atStart => exact ⟨0, Nat.zero_le _, rfl, Below.refl _ _⟩
          case round =>
            obtain ⟨j, hj, rfl, hbr⟩ := hrel
            have HBR := Lib.hid hbr
            clear hbr
            by_cases hlt2 : j < L
            · have d3 : decide ((j : Int) < (L : Int)) = true := by rw [decide_eq_true_iff]; omega
              have d3' : decide (j < L) = true := by rw [decide_eq_true_iff]; omega
              have hll := HLL.out
              obtain ⟨y, hy⟩ : ∃ y, l[j]? = some y := ⟨_, List.getElem?_eq_getElem (by omega)⟩
              obtain ⟨m, hm⟩ : ∃ m, m = L - 1 - j := ⟨_, rfl⟩
              have hyr : l.reverse[m]? = some y := by
                rw [List.getElem?_reverse (by omega), show l.length - 1 - m = j by omega]
                exact hy
              obtain ⟨g1, rfl, _, r1⟩ := (HFO.out.later HBR.out).at_ hy
              obtain ⟨g2, rfl, _, r2⟩ := (HPI.out.later HBR.out).at_ hyr
              have i0 : (0 : Int) ≤ (j : Int) := by omega
              have i1 : (j : Int) < (L : Int) := by omega
              have i2 : (0 : Int) ≤ (m : Int) := by omega
              have i3 : (m : Int) < (L : Int) := by omega
              have hs1 : (L : Int) - 1 - (j : Int) = (m : Int) := by omega
              have hwa : IntKind.i64.wrap ((L : Int) - 1) = (L : Int) - 1 := by rw [IntKind.wrap_i64]; omega
              have hwb : IntKind.i64.wrap ((L : Int) - 1 - (j : Int)) = (m : Int) := by rw [hs1, IntKind.wrap_i64]; omega
              clear hy hyr hll hm hlt2
              go_wp2_with fail
              go_quiet (fail)
              go_wp2_with fail
              go_roundw
              case rel => exact ⟨j + 1, by omega, by go_num, below_draw HBR.out _⟩
              case measure => simp [intOf]; omega
            · obtain rfl : j = L := by omega
              have d3 : decide ((j : Int) < (j : Int)) = false := by rw [decide_eq_false_iff_not]; omega
              have d3' : decide (j < j) = false := by rw [decide_eq_false_iff_not]; omega
              go_wp2_with fail
              go_ret
              exact ⟨rfl, BB.out.trans (HBR.out.mono BB.out.size)⟩
    
section
set_option maxRecDepth 100000
set_option maxHeartbeats 2000000
variable {H : Type} {enc : TypeId × Value → H} {w : World}
theorem open_a {v : Value} {d : DataW H} {ps : List MemPlace} {base : Nat} (hval : Value.okWide Try.prog w .any base 5 v) (h : DataW.Trod enc Try.prog w 0 (fun _ => true) true 5 v d ps) (hs : Sized Try.prog 5 d) (hlt : ∀ z ∈ ps, z.block < w.heap.size) :
    ∃ (a : Nat), v = .int .u8 (a : Int) ∧ a < 256 := by
  obtain ⟨a0, rfl⟩ := okWide_int Try.underlying5 hval
  obtain ⟨fuel, hf0⟩ := h
  have hf : DataW.trod enc Try.prog w 0 (fun _ => true) true fuel 5 [.int .u8 a0] = some (d, ps) := hf0
  obtain ⟨a, e0, ha⟩ := leaf_u8 Try.underlying5 hf
  cases e0
  exact ⟨_, rfl, ha⟩
theorem open_b {v : Value} {d : DataW H} {ps : List MemPlace} {base : Nat} (hval : Value.okWide Try.prog w .any base 30 v) (h : DataW.Trod enc Try.prog w 0 (fun _ => true) true 30 v d ps) (hs : Sized Try.prog 30 d) (hlt : ∀ z ∈ ps, z.block < w.heap.size) :
    ∃ (bA : Option Addr) (bL bC : Nat) (bx : List Nat), v = .slice bA bL bC ∧ (bL ≤ bC ∧ bL ≤ 140737488355328 ∧ AtB w bA bL bx) := by
  obtain ⟨a0, len, cap, rfl⟩ := okWide_slice Try.underlying30 hval
  obtain ⟨fuel, hf0⟩ := h
  have hf : DataW.trod enc Try.prog w 0 (fun _ => true) true fuel 30 [.slice a0 len cap] = some (d, ps) := hf0
  obtain ⟨bA, bL, bC, bx, e0, hb⟩ := leaf_bytes hf hs hlt
  cases e0
  exact ⟨_, _, _, _, rfl, hb⟩
end

set_option maxRecDepth 100000 in
set_option maxHeartbeats 8000000 in
theorem lifted (os : Os) (started : os.Started) (H : Type) (enc : TypeId × Value → H) :
    ReturnsInHanded {} Try.checked os 4 .any (Rows.poolAloneSpec.pre6 enc Try.prog Try.f4 Rows.poolAloneRow.domain false) (Rows.poolAloneSpec.post enc Try.prog Try.f4 false true false false) := by
  refine law_lifted (C := Try.checked) own started (by kernel_rfl) Try.func4
    (ChangeSpec.witness6 (enc := enc) (C := Try.checked) false ⟨#[], #[.int .u8 0, .slice none 0 0], []⟩ 8 (by kernel_rfl) (by kernel_rfl) (by kernel_rfl) (by kernel_rfl))
    (by kernel_rfl) (by kernel_rfl) Try.underlying4 rfl (by kernel_rfl) ?_
  intro W base args ds before hval hA hwt hlt
  have hA' : DataW.TrodAll enc Try.prog W 0 (fun _ => true) true Try.f4.params.toList args.toList ds before := hA
  have hval' : ∀ (j : Nat) t v, Try.f4.params[j]? = some t → args[j]? = some v → Value.okWide Try.prog W .any base t v := hval
  have hwt' : (DataW.weightsEach Try.prog Try.f4.params.toList ds).all (· ≤ reachBytes) = true := hwt
  rw [Try.params4] at hA' hval' hwt'
  obtain ⟨v0, vs0, d0, ds0, p0, q0, hargs, rfl, rfl, k0, r0⟩ := trodAll_cons hA'
  obtain ⟨v1, vs1, d1, ds1, p1, q1, rfl, rfl, rfl, k1, r1⟩ := trodAll_cons r0
  obtain ⟨rfl, rfl, rfl⟩ := trodAll_nil r1
  obtain rfl : args = #[v0, v1] := by cases args; simp_all
  obtain ⟨a, rfl, ha⟩ := open_a (hval' 0 5 v0 rfl rfl) k0 (sized_of hwt' (j := 0) (t := 5) rfl rfl) (fun x hx => hlt x (by simp [hx]))
  obtain ⟨bA, bL, bC, bx, rfl, hb⟩ := open_b (hval' 1 30 v1 rfl rfl) k1 (sized_of hwt' (j := 1) (t := 30) rfl rfl) (fun x hx => hlt x (by simp [hx]))
  refine ⟨rfl, ?_⟩
  obtain ⟨hbc, hb9, hbat⟩ := hb
  by_cases hln : bL ≤ 40
  · exact walk a ha bA bL bC bx hln W (Lib.hid hbat)
  · exact walkA a ha bA bL bC bx (by omega) W (Lib.hid hbat)

theorem over : Rows.poolAloneRow.holds Try.pinned (OpenSpec.ofChange Rows.poolAloneSpec) :=
  OpenClaim.holds_of_wide 4 Try.f4 rfl rfl rfl rfl rfl rfl rfl ⟨rfl, rfl, rfl, rfl, rfl⟩ rfl rfl rfl rfl rfl (by kernel_rfl) Try.func4 (by kernel_rfl)
    (of_decide_eq_true (by kernel_rfl)) (by unfold Func.isWrapper; first | (rw [if_pos (by decide +kernel)]; kernel_rfl) | (rw [if_neg (by decide +kernel)]; exact ⟨rfl, rfl⟩))
    (fun os started H enc _ => lifted os started H enc)

/-- The statement. -/
theorem proved : Rows.PoolAloneSaid :=
  over
#print axioms proved
end Go.Proofs.Ytadknblgfcgkpaa.poolAlone
