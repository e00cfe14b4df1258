/-
  PoolDirect: made at once, Pop and Push do what they do access by access; for 8 records, 30 operations. No condition beyond the statement's own.
-/
import Derived.Test.YtadknblgfcgkpaaPolShown
import Derived.Test.YtadknblgfcgkpaaPolDirLoop
import Derived.Test.YtadknblgfcgkpaaAccLeaf
import Derived.Test.YtadknblgfcgkpaaLaw
import Derived.Test.YtadknblgfcgkpaaFields
import Derived.Deep.Cut
import Derived.Deep.CutRange
namespace Go.Proofs.Ytadknblgfcgkpaa.poolDirect
open Go.ChangeShapes Go.WideShapes Go.ChangeAt Go.RowKit Go.Deep Go.BigFrame
set_option linter.unusedVariables false
theorem own : ownKnob Try.prog.godebug = none := by kernel_rfl

set_option maxRecDepth 100000 in
set_option maxHeartbeats 16000000 in
theorem walkA (c0 : Nat) (hc0 : c0 < 256) (LA : Option Addr) (ln lc : Nat) (xs : List Nat) (hln : 30 < ln) (w : World) (HL : Hid (AtB w LA ln xs)) :
    Calls Try.prog 7 #[.int .u8 (c0 : Int), .slice LA ln lc] w fun e w' => e = .returned (.bool true) ∧ Below w.heap.size w w' := by
  have d1 : decide ((30 : Int) < (ln : Int)) = true := by rw [decide_eq_true_iff]; omega
  have d1' : decide (30 < ln) = true := by rw [decide_eq_true_iff]; omega
  go_enter Try.func7, Try.ntmps7
  go_wp2_with fail
  (with_reducible refine (poolShown _).mono ?_)
  rintro e w1 ⟨rfl, hb⟩
  have BB := Lib.hid hb
  clear hb
  go_wp2_with fail
  go_ret
  exact ⟨rfl, BB.out⟩

set_option maxRecDepth 100000 in
set_option maxHeartbeats 16000000 in
theorem walk (c0 : Nat) (hc0 : c0 < 256) (LA : Option Addr) (ln lc : Nat) (xs : List Nat) (hln : ln ≤ 30) (w : World) (HL : Hid (AtB w LA ln xs)) :
    Calls Try.prog 7 #[.int .u8 (c0 : Int), .slice LA ln lc] w fun e w' => e = .returned (.bool true) ∧ Below w.heap.size w w' := by
  obtain ⟨r, hr⟩ : ∃ r : Nat, r = 0 := ⟨0, rfl⟩
  obtain ⟨c, hc⟩ : ∃ c, c0 % 9 = c := ⟨_, rfl⟩
  have hc1 : c < 9 := by omega
  have q1 : (c0 : Int) % 9 = (c : Int) := by omega
  have d1 : decide ((30 : Int) < (ln : Int)) = false := by rw [decide_eq_false_iff_not]; omega
  have d1' : decide (30 < ln) = false := by rw [decide_eq_false_iff_not]; omega
  have HNEW : ∀ w, Calls Try.prog 14 #[.int .i64 1, .int .i64 (c : Int)] w (NewWdR w 1 c 1 (sizeN 1 c) (newF 1 c) r) := fun w => newWdR 1 c (by decide) (by decide) (by omega) hr w
  have HP0 : Hid (Parts c (newF 1 c) (List.range' 1 c) []) := Lib.hid (Parts.start (by omega))
  have HPOP := fun G hG a l hF ha A ka R ra S sa w h0 h1 h2 => poolPop c r (by omega) G hG A ka R ra S sa w h0 h1 h2 a l hF ha
  have HNONE := fun G hG hF A ka R ra S sa w h0 h1 h2 => poolNone c r (by omega) G hG A ka R ra S sa w h0 h1 h2 hF
  have HPUSH := fun G hG q hq1 hq A ka R ra S sa w h0 h1 h2 => poolPush c r (by omega) G hG A ka R ra S sa w h0 h1 h2 q hq1 hq
  have HCK := Lib.hid hc1
  have HLN := Lib.hid hln
  have BW : Hid (w.heap.size ≤ w.heap.size) := Lib.hid (Nat.le_refl _)
  generalize newF 1 c = G0 at *
  generalize hn : sizeN 1 c = n at *
  have HN := Lib.hid hn
  clear hr hc hn hln
  go_enter Try.func7, Try.ntmps7
  go_wp2_with fail
  (with_reducible refine (poolShown _).mono ?_)
  rintro e w1 ⟨rfl, hb⟩
  have BB := Lib.hid hb
  clear hb
  have BWn : Hid (w.heap.size ≤ w1.heap.size) := Lib.hid BB.out.size
  clear BW; have BW := BWn; clear BWn
  go_wp2_with fail
  try rw [q1]
  (with_reducible refine (HNEW _).mono ?_)
  rintro e w0 ⟨A0, ka0, R0, ra0, S0, sa0, rfl, ha, hs0, hs1, hb, hP⟩
  go_upto_region 6 with fail
  have hal := al_below w0 (.cells #[.int .i64 1, .int .i64 (c : Int), .slice A0 n ka0, .int .u64 (r : Int), .slice R0 1 ra0, .slice S0 1 sa0] 51)
  have hbn := hb.trans (hal.mono hb.size)
  have W0 : Hid (WdFrom (fun b => b ≠ w0.heap.size) (fun _ => False) (w0.alloc (.cells #[.int .i64 1, .int .i64 (c : Int), .slice A0 n ka0, .int .u64 (r : Int), .slice R0 1 ra0, .slice S0 1 sa0] 51)) w0.heap.size 1 (c : Int) n r 1 G0 (zerosS 1) (zerosS 1)) := Lib.hid ⟨A0, ka0, R0, ra0, S0, sa0, WdAt.made0 (t := 1) (c := (c : Int)) (k := ka0) (r := r) (ra := ra0) (sa := sa0) w0 51 ha hs0 hs1, ha.old.mono fun b hb => (by omega), (hs0.old.mono fun b hb => (by omega : b ≠ w0.heap.size)).later hs0 hal, (hs1.old.mono fun b hb => (by omega : b ≠ w0.heap.size)).later hs1 hal, fun P h => h.elim⟩
  generalize w0.alloc (.cells #[.int .i64 1, .int .i64 (c : Int), .slice A0 n ka0, .int .u64 (r : Int), .slice R0 1 ra0, .slice S0 1 sa0] 51) = x0 at hal hbn W0 ⊢
  have BBn := Lib.hid (BB.out.trans (hbn.mono BB.out.size)); clear BB; have BB := BBn; clear BBn
  have HG0 : Hid (w.heap.size ≤ w0.heap.size) := Lib.hid (Nat.le_trans BW.out hb.size)
  generalize w0.heap.size = b0 at W0 HG0 ⊢
  clear ha hs0 hs1 hb hP hal hbn
  go_wp2_with fail
  (with_reducible refine (HNEW _).mono ?_)
  clear HNEW q1
  rintro e w1' ⟨A1, ka1, R1, ra1, S1, sa1, rfl, ha, hs0, hs1, hb, hP⟩
  go_upto_region 7 with fail
  have hal := al_below w1' (.cells #[.int .i64 1, .int .i64 (c : Int), .slice A1 n ka1, .int .u64 (r : Int), .slice R1 1 ra1, .slice S1 1 sa1] 51)
  have hbn := hb.trans (hal.mono hb.size)
  have hb0z : b0 < x0.heap.size := W0.out.lt
  have W1 : Hid (WdFrom (fun b => b ≠ b0 ∧ b ≠ w1'.heap.size) (fun _ => False) (w1'.alloc (.cells #[.int .i64 1, .int .i64 (c : Int), .slice A1 n ka1, .int .u64 (r : Int), .slice R1 1 ra1, .slice S1 1 sa1] 51)) w1'.heap.size 1 (c : Int) n r 1 G0 (zerosS 1) (zerosS 1)) := Lib.hid (by
    obtain ⟨q0, q1, q2⟩ := hP (fun b => b ≠ b0) (fun b hb => by omega)
    exact ⟨A1, ka1, R1, ra1, S1, sa1, WdAt.made0 (t := 1) (c := (c : Int)) (k := ka1) (r := r) (ra := ra1) (sa := sa1) w1' 51 ha hs0 hs1, fun hp b o e => ⟨q0 hp b o e, by have := ha.old hp b o e; omega⟩, ((q1.both (hs0.old)).mono fun b hb => (⟨hb.1, by omega⟩ : b ≠ b0 ∧ b ≠ w1'.heap.size)).later hs0 hal, ((q2.both (hs1.old)).mono fun b hb => (⟨hb.1, by omega⟩ : b ≠ b0 ∧ b ≠ w1'.heap.size)).later hs1 hal, fun P h => h.elim⟩)
  have W0n : Hid (WdFrom (fun b => b ≠ b0 ∧ b ≠ w1'.heap.size) (fun _ => False) (w1'.alloc (.cells #[.int .i64 1, .int .i64 (c : Int), .slice A1 n ka1, .int .u64 (r : Int), .slice R1 1 ra1, .slice S1 1 sa1] 51)) b0 1 (c : Int) n r 1 G0 (zerosS 1) (zerosS 1)) := Lib.hid ((W0.out.sub (Q' := fun b => b ≠ b0 ∧ b ≠ w1'.heap.size) (fun b hbb hq => ⟨hq, by have := hb.size; omega⟩)).later hbn)
  have BBn := Lib.hid (BB.out.trans (hbn.mono BB.out.size)); clear BB; have BB := BBn; clear BBn
  have hb1z : w1'.heap.size < (w1'.alloc (.cells #[.int .i64 1, .int .i64 (c : Int), .slice A1 n ka1, .int .u64 (r : Int), .slice R1 1 ra1, .slice S1 1 sa1] 51)).heap.size := W1.out.lt
  have hb01 : b0 < w1'.heap.size := Nat.lt_of_lt_of_le hb0z hb.size
  generalize w1'.alloc (.cells #[.int .i64 1, .int .i64 (c : Int), .slice A1 n ka1, .int .u64 (r : Int), .slice R1 1 ra1, .slice S1 1 sa1] 51) = x1 at hal hbn W1 W0n BB hb1z ⊢
  generalize w1'.heap.size = b1 at W1 W0n hb1z hb01 ⊢
  have HB01 := Lib.hid (And.intro hb01 hb1z)
  clear W0 ha hs0 hs1 hb hP hal hbn hb0z hb1z hb01
  go_wp2_with fail
  (with_reducible refine (direct_at b0 _).mono ?_)
  rintro e w8 ⟨p0, p1, rfl, hv0, hv1, hp0, hp1, hb8⟩
  have HZ : Hid (∃ B0, RunD w b0 b1 p0 p1 B0 c n r (.slice none 0 0) [] G0 G0 w8) := Lib.hid (by
    have h01 := HB01.out
    have hg0 := HG0.out
    have hs8 := hb8.size
    refine ⟨w8.heap.size, BB.out.trans (hb8.mono BB.out.size), Nat.le_refl _, ⟨⟨by omega, by omega⟩, ⟨by omega, by omega⟩, ⟨by omega, hv0.1⟩, ⟨by omega, hv1.1⟩, by omega, by omega, by omega, by omega, by omega⟩, ?_, (W1.out.later hb8).sub (fun b _ hb => ⟨hb.1, hb.2, fun k hk => by cases hk⟩), OwnI.nil _ _⟩
    obtain ⟨A, ka, R, ra, S, sa, hW, o0, o1, o2, _⟩ := W0n.out.later hb8
    have f1 : ∀ b, (b ≠ b0 ∧ b ≠ b1) → Out b0 1 b := fun b hb => by unfold Out; omega
    have f2 : ∀ b, (b ≠ b0 ∧ b ≠ b1) → Nt b0 b1 (.slice none 0 0) b := fun b hb => ⟨hb.1, hb.2, fun k hk => by cases hk⟩
    exact ⟨⟨A, ka, R, ra, S, sa, hW, o0.mono f1, o1.mono f1, o2.mono f1, o0.mono f2, o1.mono f2, o2.mono f2⟩, hv0, hv1⟩)
  obtain ⟨B0, hz⟩ := HZ.out
  have HZ2 := Lib.hid hz
  clear hz HZ W0n W1 hv0 hv1 hp0 hp1 hb8 BB
  clear d1 d1'
  go_wp2_with fail
  go_loopw [10, 11] (fun u10 u11 wr => ∃ (i : Nat) (G : Nat → Nat) (l hs : List Nat), i ≤ ln ∧ u11 = .int .i64 (i : Int) ∧ Parts c G l hs ∧ RunD w b0 b1 p0 p1 B0 c n r u10 hs G G wr) (fun _ u _ => ln - (intOf u).toNat)
  case atStart => exact ⟨0, G0, _, [], Nat.zero_le _, rfl, HP0.out, HZ2.out⟩
  case round =>
    clear HZ2 HP0
    clear x0
    obtain ⟨i, G, l, hs, hiln, rfl, hpt, hrun⟩ := hrel
    have HR := Lib.hid hrun
    have HPT := Lib.hid hpt
    obtain ⟨vA, vcap, rfl, hvc, hmx, hcells⟩ := hrun.own.form
    have HLT := Lib.hid hrun.lt
    have hhl : hs.length ≤ 8 := by have := hpt.len; have := HCK.out; omega
    have HLB : Hid (AtB wr LA ln xs) := Lib.hid (AtB.later HL hrun.below)
    clear hrun hpt hmx
    have hln40 := HLN.out
    by_cases hlt : i < ln
    · have d1 : decide ((i : Int) < (ln : Int)) = true := by rw [decide_eq_true_iff]; omega
      have d1' : decide (i < ln) = true := by rw [decide_eq_true_iff]; omega
      obtain ⟨lb, lo, rfl, hlb, hlc⟩ := HLB.out.2.2.2 (by omega)
      have hx := hlc i hlt
      have hxb : xs.getD i 0 < 256 := by
        have h1 := HL.out.2.1
        have h2 := HL.out.1
        rw [List.getD_eq_getElem?_getD, List.getElem?_eq_getElem (by omega)]
        exact h1 _ (List.getElem_mem _)
      generalize xs.getD i 0 = x at hx hxb
      have i0 : (0 : Int) ≤ (i : Int) := by omega
      have i1 : (i : Int) < (ln : Int) := by omega
      clear hlc
      generalize hk : hs.length = k at *
      have HKL := Lib.hid hk
      clear hk
      by_cases hpush : x % 2 = 1 ∧ 0 < k
      · obtain ⟨hx1, hk0⟩ := hpush
        obtain ⟨k1, rfl⟩ : ∃ k1, k = k1 + 1 := ⟨k - 1, by omega⟩
        obtain ⟨hs', q, rfl⟩ : ∃ hs' q, hs = hs' ++ [q] := ⟨hs.dropLast, hs.getLast (by intro h; have := HKL.out; rw [h] at this; simp at this), (List.dropLast_concat_getLast _).symm⟩
        have hkl : hs'.length = k1 := by have := HKL.out; simp at this; exact this
        obtain ⟨g, rfl, hg1, hg2, r1⟩ := hcells k1 q (by rw [← hkl]; simp)
        have hqm := HPT.out.le q (by simp)
        have hG : ∀ j, G j < 18446744073709551616 := by obtain ⟨_, _, _, _, _, _, hW, _⟩ := HR.out.dir.run; exact hW.2.1.1
        have HPU := HPUSH G hG q hqm.1 hqm.2
        have HRc : Hid (RunD w b0 b1 p0 p1 B0 c n r (.slice (some ⟨g, 0, none⟩) k1 vcap) hs' G G wr) := Lib.hid (by have h := HR.out.cut (m := k1) (by rw [List.length_append, hkl]; omega) (by simp); rw [show (hs' ++ [q]).take k1 = hs' by rw [← hkl]; simp] at h; exact h)
        have HPD : Calls Try.prog 19 #[dirV p0 p1, .int .i64 1, .int .i64 (q : Int)] wr (fun e w' => e = .returned (.tuple #[]) ∧ RunD w b0 b1 p0 p1 B0 c n r (.slice (some ⟨g, 0, none⟩) k1 vcap) hs' (pushG 1 q G) G w') := by
          have hcc : c ≤ 65536 := by have := HCK.out; omega
          have hrr := HRc.out
          have hnn := HN.out
          rw [← hnn] at hrr ⊢
          exact pushD hcc hrr q hqm.1 hqm.2
        have HPT2 := Lib.hid (HPT.out.last (by have := HCK.out; omega))
        generalize pushG 1 q G = G5 at *
        have dx : ((x : Int) % 2 == 1) = true := by rw [beq_iff_eq]; omega
        have dk : decide ((0 : Int) < (k1 : Int) + 1) = true := by rw [decide_eq_true_iff]; omega
        have dk' : decide (0 < k1 + 1) = true := by rw [decide_eq_true_iff]; omega
        have i2 : (0 : Int) ≤ (k1 : Int) := by omega
        have i3 : (k1 : Int) < (k1 : Int) + 1 := by omega
        have hcut := run_cutI_h (some ⟨g, 0, none⟩) (k1 + 1) vcap k1 (by omega)
        clear hx1 hk0 hqm hG HPOP HNONE HPUSH hcells HR HRc
        go_wp2_with fail
        (with_reducible refine HPD.mono ?_)
        clear HPD
        rintro e w3 ⟨rfl, hr3⟩
        have HR3 := Lib.hid hr3
        clear hr3
        have HWD := Lib.hid HR3.out.run
        have HVlt := Lib.hid (fun k hk => (HR3.out.own.lt k hk).2)
        have HOWN := Lib.hid HR3.out.own
        have BB := Lib.hid HR3.out.below
        obtain ⟨A1, ka1, R1, ra1, S1, sa1, hW, o0, o1, o2, _⟩ := HWD.out
        have W1 := Lib.hid hW
        have O1 := Lib.hid (And.intro o0 (And.intro o1 o2))
        obtain ⟨c0, c1, c2, c3, c4, c5⟩ := hW.cells
        have HGlt := Lib.hid hW.1.1
        clear hW o0 o1 o2
        have WV := Lib.hid W1.out.1
        have HB0lt := Lib.hid (Nat.lt_of_lt_of_le HLT.out.1.2 HR3.out.size)
        go_wp2_with fail
        (with_reducible refine (HPU A1 ka1 R1 ra1 S1 sa1 _ W1.out.gA W1.out.g0 W1.out.g1).mono ?_)
        clear HPU c0 c1 c2 c3 c4 c5
        rintro e w5 ⟨A5, ka5, R5, ra5, S5, sa5, rfl, ha, hs0, hs1, hb, hP⟩
        go_upto_region 19 with fail
        have hbx : Below w5.heap.size w5 ((w5.alloc (.cells #[.int .i64 1, .int .i64 (c : Int), .slice A5 n ka5, .int .u64 (r : Int), .slice R5 1 ra5, .slice S5 1 sa5] 51)).alloc (.cells #[.int .i64 0, .bool false, .int .i64 0, .int .u64 0, .slice none 0 0] 37)) := below_pair _ _ _
        have W5 := Lib.hid (WdAt.made (t := 1) (c := (c : Int)) (k := ka5) (r := r) (ra := ra5) (sa := sa5) w5 (.cells #[.int .i64 0, .bool false, .int .i64 0, .int .u64 0, .slice none 0 0] 37) 51 ha hs0 hs1)
        have O5 := Lib.hid (VarAt.made1 w5 (.cells #[.int .i64 1, .int .i64 (c : Int), .slice A5 n ka5, .int .u64 (r : Int), .slice R5 1 ra5, .slice S5 1 sa5] 51) #[.int .i64 0, .bool false, .int .i64 0, .int .u64 0, .slice none 0 0] 37)
        have hbn := hb.trans (hbx.mono hb.size)
        have HS5 := Lib.hid (And.intro hs0 hs1)
        have HX5 := Lib.hid hbx
        have HB5 := Lib.hid hb
        have HP5 := Lib.hid hP
        generalize (w5.alloc (.cells #[.int .i64 1, .int .i64 (c : Int), .slice A5 n ka5, .int .u64 (r : Int), .slice R5 1 ra5, .slice S5 1 sa5] 51)).alloc (.cells #[.int .i64 0, .bool false, .int .i64 0, .int .u64 0, .slice none 0 0] 37) = x5 at hbx hbn W5 O5 HX5 ⊢
        have WVn := Lib.hid (WV.out.below hbn); clear WV; have WV := WVn; clear WVn
        have HOWNn := Lib.hid (HOWN.out.later hbn); clear HOWN; have HOWN := HOWNn; clear HOWNn
        have HR3n := Lib.hid (HR3.out.later hbn); clear HR3; have HR3 := HR3n; clear HR3n
        have BBn := Lib.hid (BB.out.trans (hbn.mono BB.out.size)); clear BB; have BB := BBn; clear BBn
        clear ha hs0 hs1 hb hP hbx hbn
        obtain ⟨_, ⟨p1', p2', p3', p4', p5'⟩, _⟩ := O5.out.five
        have hgx : b1 < x5.heap.size := WV.out.1
        have hlt0 := HLT.out
        have nb : ¬ (w5.heap.size = b1) := by have := HB5.out.size; have := HGlt.out; omega
        have nb' : ¬ (b1 = w5.heap.size) := fun e => nb e.symm
        have OF5 : Hid (OffW (Nt b0 b1 (.slice (some ⟨g, 0, none⟩) k1 vcap)) A5 n ∧ OffS (Nt b0 b1 (.slice (some ⟨g, 0, none⟩) k1 vcap)) x5 R5 1 ∧ OffS (Nt b0 b1 (.slice (some ⟨g, 0, none⟩) k1 vcap)) x5 S5 1) := Lib.hid (by
          obtain ⟨q0, q1, q2⟩ := HP5.out (Nt b0 b1 (.slice (some ⟨g, 0, none⟩) k1 vcap)) ⟨fun b hb => ⟨by have := HB0lt.out; omega, by have := HGlt.out; omega, fun k hk => by have := HVlt.out k hk; omega⟩, O1.out.1, O1.out.2.1, O1.out.2.2⟩
          exact ⟨q0, q1.later HS5.out.1 HX5.out, q2.later HS5.out.2 HX5.out⟩)
        obtain ⟨_, ⟨e0, e1, e2, e3, e4, e5⟩, _⟩ := W5.out.1.six
        obtain ⟨zx, ⟨y0, y1, y2, y3, y4, y5⟩, f0, f1, f2, f3, f4, f5⟩ := WV.out.six
        have hbb := BB.out
        have hsz5 := HR3.out.size
        go_wp2_with fail
        go_roundw
        case rel => exact ⟨i + 1, G5, q :: l, hs', by omega, by go_num, HPT2.out, (HR3.out.put (by repeat (first | with_reducible exact Keep.refl _ _ | with_reducible refine Keep.drew ?_ | with_reducible refine Keep.alloc ?_ _ | (with_reducible refine Keep.set ?_ _ _ _ (by unfold Nt; omega)))) (fun b vs hne h => (((((h.apart _ _ (Ne.symm hne)).apart _ _ (Ne.symm hne)).apart _ _ (Ne.symm hne)).apart _ _ (Ne.symm hne)).apart _ _ (Ne.symm hne)).apart _ _ (Ne.symm hne)) (by repeat (first | with_reducible assumption | with_reducible refine Below.drew ?_ | with_reducible refine below_al ?_ | (with_reducible refine below_set1 (by omega) _ ?_))) (by repeat (first | with_reducible exact HOWN.out | (with_reducible refine OwnI.apart ?_ _ _ _ (by omega)))) ⟨A5, ka5, R5, ra5, S5, sa5, ⟨VarAt.of6 (by simp; omega) (by go_simp) (by go_simp) (by go_simp) (by go_simp) (by go_simp) (by go_simp) (by go_simp) (by go_simp) (by go_simp) (by go_simp) (by go_simp) (by go_simp), W5.out.2.1.keep (Q := Nt b0 b1 (.slice (some ⟨g, 0, none⟩) k1 vcap)) (by repeat (first | with_reducible exact Keep.refl _ _ | with_reducible refine Keep.drew ?_ | with_reducible refine Keep.alloc ?_ _ | (with_reducible refine Keep.set ?_ _ _ _ (by unfold Nt; omega)))) OF5.out.1, W5.out.2.2.1.keep (Q := Nt b0 b1 (.slice (some ⟨g, 0, none⟩) k1 vcap)) (by repeat (first | with_reducible exact Keep.refl _ _ | with_reducible refine Keep.drew ?_ | with_reducible refine Keep.alloc ?_ _ | (with_reducible refine Keep.set ?_ _ _ _ (by unfold Nt; omega)))) OF5.out.2.1, W5.out.2.2.2.keep (Q := Nt b0 b1 (.slice (some ⟨g, 0, none⟩) k1 vcap)) (by repeat (first | with_reducible exact Keep.refl _ _ | with_reducible refine Keep.drew ?_ | with_reducible refine Keep.alloc ?_ _ | (with_reducible refine Keep.set ?_ _ _ _ (by unfold Nt; omega)))) OF5.out.2.2⟩, OF5.out.1, OF5.out.2.1.keep W5.out.2.2.1 (Q := Nt b0 b1 (.slice (some ⟨g, 0, none⟩) k1 vcap)) (by repeat (first | with_reducible exact Keep.refl _ _ | with_reducible refine Keep.drew ?_ | with_reducible refine Keep.alloc ?_ _ | (with_reducible refine Keep.set ?_ _ _ _ (by unfold Nt; omega)))) OF5.out.2.1, OF5.out.2.2.keep W5.out.2.2.2 (Q := Nt b0 b1 (.slice (some ⟨g, 0, none⟩) k1 vcap)) (by repeat (first | with_reducible exact Keep.refl _ _ | with_reducible refine Keep.drew ?_ | with_reducible refine Keep.alloc ?_ _ | (with_reducible refine Keep.set ?_ _ _ _ (by unfold Nt; omega)))) OF5.out.2.2, fun P h => h.elim⟩)⟩
        case measure => simp [intOf]; omega

      · by_cases hx1 : x % 2 = 1
        · have dx : ((x : Int) % 2 == 1) = true := by rw [beq_iff_eq]; omega
          have dk : decide ((0 : Int) < (k : Int)) = false := by rw [decide_eq_false_iff_not]; omega
          have dk' : decide (0 < k) = false := by rw [decide_eq_false_iff_not]; omega
          clear hx1
          cases l with
          | nil =>
            have hG : ∀ j, G j < 18446744073709551616 := by obtain ⟨_, _, _, _, _, _, hW, _⟩ := HR.out.dir.run; exact hW.2.1.1
            have HPD : Calls Try.prog 20 #[dirV p0 p1, .int .i64 1] wr (fun e w' => e = .returned (.int .i64 0) ∧ RunD w b0 b1 p0 p1 B0 c n r (.slice vA k vcap) hs G G w') := by
              have hcc : c ≤ 65536 := by have := HCK.out; omega
              have hrr := HR.out
              have hnn := HN.out
              rw [← hnn] at hrr ⊢
              exact noneD hcc hrr HPT.out.free
            have HAL := HNONE G hG HPT.out.free
            have HPT2 := HPT
            have dn : decide ((c : Int) < (0 : Int)) = false := by rw [decide_eq_false_iff_not]; omega
            clear hG HPOP HNONE HPUSH hcells hpush HR
            go_wp2_with fail
            (with_reducible refine HPD.mono ?_)
            clear HPD
            rintro e w3 ⟨rfl, hr3⟩
            have HR3 := Lib.hid hr3
            clear hr3
            have HWD := Lib.hid HR3.out.run
            have HVlt := Lib.hid (fun k hk => (HR3.out.own.lt k hk).2)
            have HOWN := Lib.hid HR3.out.own
            have BB := Lib.hid HR3.out.below
            obtain ⟨A1, ka1, R1, ra1, S1, sa1, hW, o0, o1, o2, _⟩ := HWD.out
            have W1 := Lib.hid hW
            have O1 := Lib.hid (And.intro o0 (And.intro o1 o2))
            obtain ⟨c0, c1, c2, c3, c4, c5⟩ := hW.cells
            have HGlt := Lib.hid hW.1.1
            clear hW o0 o1 o2
            have WV := Lib.hid W1.out.1
            have HB0lt := Lib.hid (Nat.lt_of_lt_of_le HLT.out.1.2 HR3.out.size)
            go_wp2_with fail
            (with_reducible refine (HAL A1 ka1 R1 ra1 S1 sa1 _ W1.out.gA W1.out.g0 W1.out.g1).mono ?_)
            clear HAL c0 c1 c2 c3 c4 c5
            rintro e w5 ⟨A5, ka5, R5, ra5, S5, sa5, rfl, ha, hs0, hs1, hb, hP⟩
            go_upto_region 22 with fail
            have hbx : Below w5.heap.size w5 ((w5.alloc (.cells #[.int .i64 1, .int .i64 (c : Int), .slice A5 n ka5, .int .u64 (r : Int), .slice R5 1 ra5, .slice S5 1 sa5] 51)).alloc (.cells #[.int .i64 0, .bool false, .int .i64 0, .int .u64 0, .slice none 0 0] 37)) := below_pair _ _ _
            have W5 := Lib.hid (WdAt.made (t := 1) (c := (c : Int)) (k := ka5) (r := r) (ra := ra5) (sa := sa5) w5 (.cells #[.int .i64 0, .bool false, .int .i64 0, .int .u64 0, .slice none 0 0] 37) 51 ha hs0 hs1)
            have O5 := Lib.hid (VarAt.made1 w5 (.cells #[.int .i64 1, .int .i64 (c : Int), .slice A5 n ka5, .int .u64 (r : Int), .slice R5 1 ra5, .slice S5 1 sa5] 51) #[.int .i64 0, .bool false, .int .i64 0, .int .u64 0, .slice none 0 0] 37)
            have hbn := hb.trans (hbx.mono hb.size)
            have HS5 := Lib.hid (And.intro hs0 hs1)
            have HX5 := Lib.hid hbx
            have HB5 := Lib.hid hb
            have HP5 := Lib.hid hP
            generalize (w5.alloc (.cells #[.int .i64 1, .int .i64 (c : Int), .slice A5 n ka5, .int .u64 (r : Int), .slice R5 1 ra5, .slice S5 1 sa5] 51)).alloc (.cells #[.int .i64 0, .bool false, .int .i64 0, .int .u64 0, .slice none 0 0] 37) = x5 at hbx hbn W5 O5 HX5 ⊢
            have WVn := Lib.hid (WV.out.below hbn); clear WV; have WV := WVn; clear WVn
            have HOWNn := Lib.hid (HOWN.out.later hbn); clear HOWN; have HOWN := HOWNn; clear HOWNn
            have HR3n := Lib.hid (HR3.out.later hbn); clear HR3; have HR3 := HR3n; clear HR3n
            have BBn := Lib.hid (BB.out.trans (hbn.mono BB.out.size)); clear BB; have BB := BBn; clear BBn
            clear ha hs0 hs1 hb hP hbx hbn
            obtain ⟨_, ⟨p1', p2', p3', p4', p5'⟩, _⟩ := O5.out.five
            have hgx : b1 < x5.heap.size := WV.out.1
            have hlt0 := HLT.out
            have nb : ¬ (w5.heap.size = b1) := by have := HB5.out.size; have := HGlt.out; omega
            have nb' : ¬ (b1 = w5.heap.size) := fun e => nb e.symm
            have OF5 : Hid (OffW (Nt b0 b1 (.slice vA k vcap)) A5 n ∧ OffS (Nt b0 b1 (.slice vA k vcap)) x5 R5 1 ∧ OffS (Nt b0 b1 (.slice vA k vcap)) x5 S5 1) := Lib.hid (by
              obtain ⟨q0, q1, q2⟩ := HP5.out (Nt b0 b1 (.slice vA k vcap)) ⟨fun b hb => ⟨by have := HB0lt.out; omega, by have := HGlt.out; omega, fun k hk => by have := HVlt.out k hk; omega⟩, O1.out.1, O1.out.2.1, O1.out.2.2⟩
              exact ⟨q0, q1.later HS5.out.1 HX5.out, q2.later HS5.out.2 HX5.out⟩)
            obtain ⟨_, ⟨e0, e1, e2, e3, e4, e5⟩, _⟩ := W5.out.1.six
            obtain ⟨zx, ⟨y0, y1, y2, y3, y4, y5⟩, f0, f1, f2, f3, f4, f5⟩ := WV.out.six
            have hbb := BB.out
            have hsz5 := HR3.out.size
            go_wp2_with fail
            go_roundw
            case rel => exact ⟨i + 1, G, [], hs, by omega, by go_num, HPT2.out, (HR3.out.put (by repeat (first | with_reducible exact Keep.refl _ _ | with_reducible refine Keep.drew ?_ | with_reducible refine Keep.alloc ?_ _ | (with_reducible refine Keep.set ?_ _ _ _ (by unfold Nt; omega)))) (fun b vs hne h => (((((h.apart _ _ (Ne.symm hne)).apart _ _ (Ne.symm hne)).apart _ _ (Ne.symm hne)).apart _ _ (Ne.symm hne)).apart _ _ (Ne.symm hne)).apart _ _ (Ne.symm hne)) (by repeat (first | with_reducible assumption | with_reducible refine Below.drew ?_ | with_reducible refine below_al ?_ | (with_reducible refine below_set1 (by omega) _ ?_))) (by repeat (first | with_reducible exact HOWN.out | (with_reducible refine OwnI.apart ?_ _ _ _ (by omega)))) ⟨A5, ka5, R5, ra5, S5, sa5, ⟨VarAt.of6 (by simp; omega) (by go_simp) (by go_simp) (by go_simp) (by go_simp) (by go_simp) (by go_simp) (by go_simp) (by go_simp) (by go_simp) (by go_simp) (by go_simp) (by go_simp), W5.out.2.1.keep (Q := Nt b0 b1 (.slice vA k vcap)) (by repeat (first | with_reducible exact Keep.refl _ _ | with_reducible refine Keep.drew ?_ | with_reducible refine Keep.alloc ?_ _ | (with_reducible refine Keep.set ?_ _ _ _ (by unfold Nt; omega)))) OF5.out.1, W5.out.2.2.1.keep (Q := Nt b0 b1 (.slice vA k vcap)) (by repeat (first | with_reducible exact Keep.refl _ _ | with_reducible refine Keep.drew ?_ | with_reducible refine Keep.alloc ?_ _ | (with_reducible refine Keep.set ?_ _ _ _ (by unfold Nt; omega)))) OF5.out.2.1, W5.out.2.2.2.keep (Q := Nt b0 b1 (.slice vA k vcap)) (by repeat (first | with_reducible exact Keep.refl _ _ | with_reducible refine Keep.drew ?_ | with_reducible refine Keep.alloc ?_ _ | (with_reducible refine Keep.set ?_ _ _ _ (by unfold Nt; omega)))) OF5.out.2.2⟩, OF5.out.1, OF5.out.2.1.keep W5.out.2.2.1 (Q := Nt b0 b1 (.slice vA k vcap)) (by repeat (first | with_reducible exact Keep.refl _ _ | with_reducible refine Keep.drew ?_ | with_reducible refine Keep.alloc ?_ _ | (with_reducible refine Keep.set ?_ _ _ _ (by unfold Nt; omega)))) OF5.out.2.1, OF5.out.2.2.keep W5.out.2.2.2 (Q := Nt b0 b1 (.slice vA k vcap)) (by repeat (first | with_reducible exact Keep.refl _ _ | with_reducible refine Keep.drew ?_ | with_reducible refine Keep.alloc ?_ _ | (with_reducible refine Keep.set ?_ _ _ _ (by unfold Nt; omega)))) OF5.out.2.2, fun P h => h.elim⟩)⟩
            case measure => simp [intOf]; omega
          | cons a l =>
            have hG : ∀ j, G j < 18446744073709551616 := by obtain ⟨_, _, _, _, _, _, hW, _⟩ := HR.out.dir.run; exact hW.2.1.1
            have HPD : Calls Try.prog 20 #[dirV p0 p1, .int .i64 1] wr (fun e w' => e = .returned (.int .i64 (a : Int)) ∧ RunD w b0 b1 p0 p1 B0 c n r (.slice vA k vcap) hs (popG 1 G) G w') := by
              have hcc : c ≤ 65536 := by have := HCK.out; omega
              have hrr := HR.out
              have hnn := HN.out
              rw [← hnn] at hrr ⊢
              exact popD hcc hrr HPT.out.free (HPT.out.le a (by simp)).2
            have HAL := HPOP G hG a l HPT.out.free (HPT.out.le a (by simp)).2
            have ha1 := HPT.out.le a (by simp)
            have HPT2 := Lib.hid HPT.out.pop
            generalize popG 1 G = G5 at *
            have da : decide ((0 : Int) < (a : Int)) = true := by rw [decide_eq_true_iff]; omega
            have da' : decide (0 < a) = true := by rw [decide_eq_true_iff]; omega
            have db : decide ((a : Int) < (0 : Int)) = false := by rw [decide_eq_false_iff_not]; omega
            have dn : decide ((c : Int) < (a : Int)) = false := by rw [decide_eq_false_iff_not]; omega
            have dn' : decide (c < a) = false := by rw [decide_eq_false_iff_not]; omega
            clear hG HPOP HNONE HPUSH hcells hpush ha1 HR
            go_wp2_with fail
            (with_reducible refine HPD.mono ?_)
            clear HPD
            rintro e w3 ⟨rfl, hr3⟩
            have HR3 := Lib.hid hr3
            clear hr3
            have HWD := Lib.hid HR3.out.run
            have HVlt := Lib.hid (fun k hk => (HR3.out.own.lt k hk).2)
            have HOWN := Lib.hid HR3.out.own
            have BB := Lib.hid HR3.out.below
            obtain ⟨A1, ka1, R1, ra1, S1, sa1, hW, o0, o1, o2, _⟩ := HWD.out
            have W1 := Lib.hid hW
            have O1 := Lib.hid (And.intro o0 (And.intro o1 o2))
            obtain ⟨c0, c1, c2, c3, c4, c5⟩ := hW.cells
            have HGlt := Lib.hid hW.1.1
            clear hW o0 o1 o2
            have WV := Lib.hid W1.out.1
            have HB0lt := Lib.hid (Nat.lt_of_lt_of_le HLT.out.1.2 HR3.out.size)
            go_wp2_with fail
            (with_reducible refine (HAL A1 ka1 R1 ra1 S1 sa1 _ W1.out.gA W1.out.g0 W1.out.g1).mono ?_)
            clear HAL c0 c1 c2 c3 c4 c5
            rintro e w5 ⟨A5, ka5, R5, ra5, S5, sa5, rfl, ha, hs0, hs1, hb, hP⟩
            go_upto_region 22 with fail
            have hbx : Below w5.heap.size w5 ((w5.alloc (.cells #[.int .i64 1, .int .i64 (c : Int), .slice A5 n ka5, .int .u64 (r : Int), .slice R5 1 ra5, .slice S5 1 sa5] 51)).alloc (.cells #[.int .i64 0, .bool false, .int .i64 (a : Int), .int .u64 0, .slice none 0 0] 37)) := below_pair _ _ _
            have W5 := Lib.hid (WdAt.made (t := 1) (c := (c : Int)) (k := ka5) (r := r) (ra := ra5) (sa := sa5) w5 (.cells #[.int .i64 0, .bool false, .int .i64 (a : Int), .int .u64 0, .slice none 0 0] 37) 51 ha hs0 hs1)
            have O5 := Lib.hid (VarAt.made1 w5 (.cells #[.int .i64 1, .int .i64 (c : Int), .slice A5 n ka5, .int .u64 (r : Int), .slice R5 1 ra5, .slice S5 1 sa5] 51) #[.int .i64 0, .bool false, .int .i64 (a : Int), .int .u64 0, .slice none 0 0] 37)
            have hbn := hb.trans (hbx.mono hb.size)
            have HS5 := Lib.hid (And.intro hs0 hs1)
            have HX5 := Lib.hid hbx
            have HB5 := Lib.hid hb
            have HP5 := Lib.hid hP
            generalize (w5.alloc (.cells #[.int .i64 1, .int .i64 (c : Int), .slice A5 n ka5, .int .u64 (r : Int), .slice R5 1 ra5, .slice S5 1 sa5] 51)).alloc (.cells #[.int .i64 0, .bool false, .int .i64 (a : Int), .int .u64 0, .slice none 0 0] 37) = x5 at hbx hbn W5 O5 HX5 ⊢
            have WVn := Lib.hid (WV.out.below hbn); clear WV; have WV := WVn; clear WVn
            have HOWNn := Lib.hid (HOWN.out.later hbn); clear HOWN; have HOWN := HOWNn; clear HOWNn
            have HR3n := Lib.hid (HR3.out.later hbn); clear HR3; have HR3 := HR3n; clear HR3n
            have BBn := Lib.hid (BB.out.trans (hbn.mono BB.out.size)); clear BB; have BB := BBn; clear BBn
            clear ha hs0 hs1 hb hP hbx hbn
            obtain ⟨_, ⟨p1', p2', p3', p4', p5'⟩, _⟩ := O5.out.five
            have hgx : b1 < x5.heap.size := WV.out.1
            have hlt0 := HLT.out
            have nb : ¬ (w5.heap.size = b1) := by have := HB5.out.size; have := HGlt.out; omega
            have nb' : ¬ (b1 = w5.heap.size) := fun e => nb e.symm
            have OF5 : Hid (OffW (Nt b0 b1 (.slice vA k vcap)) A5 n ∧ OffS (Nt b0 b1 (.slice vA k vcap)) x5 R5 1 ∧ OffS (Nt b0 b1 (.slice vA k vcap)) x5 S5 1) := Lib.hid (by
              obtain ⟨q0, q1, q2⟩ := HP5.out (Nt b0 b1 (.slice vA k vcap)) ⟨fun b hb => ⟨by have := HB0lt.out; omega, by have := HGlt.out; omega, fun k hk => by have := HVlt.out k hk; omega⟩, O1.out.1, O1.out.2.1, O1.out.2.2⟩
              exact ⟨q0, q1.later HS5.out.1 HX5.out, q2.later HS5.out.2 HX5.out⟩)
            obtain ⟨_, ⟨e0, e1, e2, e3, e4, e5⟩, _⟩ := W5.out.1.six
            obtain ⟨zx, ⟨y0, y1, y2, y3, y4, y5⟩, f0, f1, f2, f3, f4, f5⟩ := WV.out.six
            have hbb := BB.out
            have hsz5 := HR3.out.size
            go_upto_region 26 with fail
            refine gen_w (P := fun W => Code.wp _ _ _ _ W) (fun z => RunD w b0 b1 p0 p1 B0 c n r (.slice vA k vcap) hs G5 G5 z) (HR3.out.put (by repeat (first | with_reducible exact Keep.refl _ _ | with_reducible refine Keep.drew ?_ | with_reducible refine Keep.alloc ?_ _ | (with_reducible refine Keep.set ?_ _ _ _ (by unfold Nt; omega)))) (fun b vs hne h => (((((h.apart _ _ (Ne.symm hne)).apart _ _ (Ne.symm hne)).apart _ _ (Ne.symm hne)).apart _ _ (Ne.symm hne)).apart _ _ (Ne.symm hne)).apart _ _ (Ne.symm hne)) (by repeat (first | with_reducible assumption | with_reducible refine Below.drew ?_ | with_reducible refine below_al ?_ | (with_reducible refine below_set1 (by omega) _ ?_))) (by repeat (first | with_reducible exact HOWN.out | (with_reducible refine OwnI.apart ?_ _ _ _ (by omega)))) ⟨A5, ka5, R5, ra5, S5, sa5, ⟨VarAt.of6 (by simp; omega) (by go_simp) (by go_simp) (by go_simp) (by go_simp) (by go_simp) (by go_simp) (by go_simp) (by go_simp) (by go_simp) (by go_simp) (by go_simp) (by go_simp), W5.out.2.1.keep (Q := Nt b0 b1 (.slice vA k vcap)) (by repeat (first | with_reducible exact Keep.refl _ _ | with_reducible refine Keep.drew ?_ | with_reducible refine Keep.alloc ?_ _ | (with_reducible refine Keep.set ?_ _ _ _ (by unfold Nt; omega)))) OF5.out.1, W5.out.2.2.1.keep (Q := Nt b0 b1 (.slice vA k vcap)) (by repeat (first | with_reducible exact Keep.refl _ _ | with_reducible refine Keep.drew ?_ | with_reducible refine Keep.alloc ?_ _ | (with_reducible refine Keep.set ?_ _ _ _ (by unfold Nt; omega)))) OF5.out.2.1, W5.out.2.2.2.keep (Q := Nt b0 b1 (.slice vA k vcap)) (by repeat (first | with_reducible exact Keep.refl _ _ | with_reducible refine Keep.drew ?_ | with_reducible refine Keep.alloc ?_ _ | (with_reducible refine Keep.set ?_ _ _ _ (by unfold Nt; omega)))) OF5.out.2.2⟩, OF5.out.1, OF5.out.2.1.keep W5.out.2.2.1 (Q := Nt b0 b1 (.slice vA k vcap)) (by repeat (first | with_reducible exact Keep.refl _ _ | with_reducible refine Keep.drew ?_ | with_reducible refine Keep.alloc ?_ _ | (with_reducible refine Keep.set ?_ _ _ _ (by unfold Nt; omega)))) OF5.out.2.1, OF5.out.2.2.keep W5.out.2.2.2 (Q := Nt b0 b1 (.slice vA k vcap)) (by repeat (first | with_reducible exact Keep.refl _ _ | with_reducible refine Keep.drew ?_ | with_reducible refine Keep.alloc ?_ _ | (with_reducible refine Keep.set ?_ _ _ _ (by unfold Nt; omega)))) OF5.out.2.2, fun P h => h.elim⟩) ?_
            rintro z hz
            have HZ := Lib.hid hz
            clear hz
            clear e0 e1 e2 e3 e4 e5 y0 y1 y2 y3 y4 y5 f0 f1 f2 f3 f4 f5 zx nb nb' hgx hlt0 hbb hsz5 p1' p2' p3' p4' p5'
            clear HS5 HX5 HB5 HP5 OF5 WV HOWN W1 O1 HGlt HR3 W5 O5 HWD
            have HM9 : Hid (hs.length ≤ 900000) := Lib.hid (by have := HKL.out; omega)
            have HOA : Hid (∀ o, OwnI (z.alloc o) B0 (.slice vA k vcap) hs) := Lib.hid (fun o => HZ.out.own.later (al_below z o))
            have HZ1 : Hid (∀ o, B0 ≤ (z.alloc o).heap.size) := Lib.hid (fun o => Nat.le_trans HZ.out.size (al_below z o).size)
            have HNX : Hid (∀ o v' w', OwnI w' B0 v' (hs ++ [a]) → (z.alloc o).grownBy w' (Value.slice vA k vcap).ownBlock → (v'.ownBlock = (Value.slice vA k vcap).ownBlock ∨ v'.ownBlock = some (z.alloc o).heap.size) → RunD w b0 b1 p0 p1 B0 c n r v' (hs ++ [a]) G5 G5 w') := Lib.hid (fun o v' w' h1 h2 h3 => (HZ.out.later (al_below z o)).next h1 h2 h3)
            clear HZ
            go_upto_region 11 with (at_builtin; (refine wpList_appendI (by rfl) (.tmp 104) (.tmp 106) (by rfl) B0 (.slice vA k vcap) hs (by rfl) (HOA.out _) z.heap.size 1 a (by rfl) (by go_simp) HM9.out (HZ1.out _) ?_); (intro v9 w9 hown9 hg9 hv9; have HZ := Lib.hid (HNX.out _ _ _ hown9 hg9 hv9); clear hown9 hg9 hv9 HNX HOA HZ1))
            go_wp2_with fail
            go_roundw
            case rel => exact ⟨i + 1, G5, l, hs ++ [a], by omega, by go_num, HPT2.out, HZ.out⟩
            case measure => simp [intOf]; omega


        · have dx : ((x : Int) % 2 == 1) = false := by rw [beq_eq_false_iff_ne]; omega
          clear hx1
          cases l with
          | nil =>
            have hG : ∀ j, G j < 18446744073709551616 := by obtain ⟨_, _, _, _, _, _, hW, _⟩ := HR.out.dir.run; exact hW.2.1.1
            have HPD : Calls Try.prog 20 #[dirV p0 p1, .int .i64 1] wr (fun e w' => e = .returned (.int .i64 0) ∧ RunD w b0 b1 p0 p1 B0 c n r (.slice vA k vcap) hs G G w') := by
              have hcc : c ≤ 65536 := by have := HCK.out; omega
              have hrr := HR.out
              have hnn := HN.out
              rw [← hnn] at hrr ⊢
              exact noneD hcc hrr HPT.out.free
            have HAL := HNONE G hG HPT.out.free
            have HPT2 := HPT
            have dn : decide ((c : Int) < (0 : Int)) = false := by rw [decide_eq_false_iff_not]; omega
            clear hG HPOP HNONE HPUSH hcells hpush HR
            go_wp2_with fail
            (with_reducible refine HPD.mono ?_)
            clear HPD
            rintro e w3 ⟨rfl, hr3⟩
            have HR3 := Lib.hid hr3
            clear hr3
            have HWD := Lib.hid HR3.out.run
            have HVlt := Lib.hid (fun k hk => (HR3.out.own.lt k hk).2)
            have HOWN := Lib.hid HR3.out.own
            have BB := Lib.hid HR3.out.below
            obtain ⟨A1, ka1, R1, ra1, S1, sa1, hW, o0, o1, o2, _⟩ := HWD.out
            have W1 := Lib.hid hW
            have O1 := Lib.hid (And.intro o0 (And.intro o1 o2))
            obtain ⟨c0, c1, c2, c3, c4, c5⟩ := hW.cells
            have HGlt := Lib.hid hW.1.1
            clear hW o0 o1 o2
            have WV := Lib.hid W1.out.1
            have HB0lt := Lib.hid (Nat.lt_of_lt_of_le HLT.out.1.2 HR3.out.size)
            go_wp2_with fail
            (with_reducible refine (HAL A1 ka1 R1 ra1 S1 sa1 _ W1.out.gA W1.out.g0 W1.out.g1).mono ?_)
            clear HAL c0 c1 c2 c3 c4 c5
            rintro e w5 ⟨A5, ka5, R5, ra5, S5, sa5, rfl, ha, hs0, hs1, hb, hP⟩
            go_upto_region 22 with fail
            have hbx : Below w5.heap.size w5 ((w5.alloc (.cells #[.int .i64 1, .int .i64 (c : Int), .slice A5 n ka5, .int .u64 (r : Int), .slice R5 1 ra5, .slice S5 1 sa5] 51)).alloc (.cells #[.int .i64 0, .bool false, .int .i64 0, .int .u64 0, .slice none 0 0] 37)) := below_pair _ _ _
            have W5 := Lib.hid (WdAt.made (t := 1) (c := (c : Int)) (k := ka5) (r := r) (ra := ra5) (sa := sa5) w5 (.cells #[.int .i64 0, .bool false, .int .i64 0, .int .u64 0, .slice none 0 0] 37) 51 ha hs0 hs1)
            have O5 := Lib.hid (VarAt.made1 w5 (.cells #[.int .i64 1, .int .i64 (c : Int), .slice A5 n ka5, .int .u64 (r : Int), .slice R5 1 ra5, .slice S5 1 sa5] 51) #[.int .i64 0, .bool false, .int .i64 0, .int .u64 0, .slice none 0 0] 37)
            have hbn := hb.trans (hbx.mono hb.size)
            have HS5 := Lib.hid (And.intro hs0 hs1)
            have HX5 := Lib.hid hbx
            have HB5 := Lib.hid hb
            have HP5 := Lib.hid hP
            generalize (w5.alloc (.cells #[.int .i64 1, .int .i64 (c : Int), .slice A5 n ka5, .int .u64 (r : Int), .slice R5 1 ra5, .slice S5 1 sa5] 51)).alloc (.cells #[.int .i64 0, .bool false, .int .i64 0, .int .u64 0, .slice none 0 0] 37) = x5 at hbx hbn W5 O5 HX5 ⊢
            have WVn := Lib.hid (WV.out.below hbn); clear WV; have WV := WVn; clear WVn
            have HOWNn := Lib.hid (HOWN.out.later hbn); clear HOWN; have HOWN := HOWNn; clear HOWNn
            have HR3n := Lib.hid (HR3.out.later hbn); clear HR3; have HR3 := HR3n; clear HR3n
            have BBn := Lib.hid (BB.out.trans (hbn.mono BB.out.size)); clear BB; have BB := BBn; clear BBn
            clear ha hs0 hs1 hb hP hbx hbn
            obtain ⟨_, ⟨p1', p2', p3', p4', p5'⟩, _⟩ := O5.out.five
            have hgx : b1 < x5.heap.size := WV.out.1
            have hlt0 := HLT.out
            have nb : ¬ (w5.heap.size = b1) := by have := HB5.out.size; have := HGlt.out; omega
            have nb' : ¬ (b1 = w5.heap.size) := fun e => nb e.symm
            have OF5 : Hid (OffW (Nt b0 b1 (.slice vA k vcap)) A5 n ∧ OffS (Nt b0 b1 (.slice vA k vcap)) x5 R5 1 ∧ OffS (Nt b0 b1 (.slice vA k vcap)) x5 S5 1) := Lib.hid (by
              obtain ⟨q0, q1, q2⟩ := HP5.out (Nt b0 b1 (.slice vA k vcap)) ⟨fun b hb => ⟨by have := HB0lt.out; omega, by have := HGlt.out; omega, fun k hk => by have := HVlt.out k hk; omega⟩, O1.out.1, O1.out.2.1, O1.out.2.2⟩
              exact ⟨q0, q1.later HS5.out.1 HX5.out, q2.later HS5.out.2 HX5.out⟩)
            obtain ⟨_, ⟨e0, e1, e2, e3, e4, e5⟩, _⟩ := W5.out.1.six
            obtain ⟨zx, ⟨y0, y1, y2, y3, y4, y5⟩, f0, f1, f2, f3, f4, f5⟩ := WV.out.six
            have hbb := BB.out
            have hsz5 := HR3.out.size
            go_wp2_with fail
            go_roundw
            case rel => exact ⟨i + 1, G, [], hs, by omega, by go_num, HPT2.out, (HR3.out.put (by repeat (first | with_reducible exact Keep.refl _ _ | with_reducible refine Keep.drew ?_ | with_reducible refine Keep.alloc ?_ _ | (with_reducible refine Keep.set ?_ _ _ _ (by unfold Nt; omega)))) (fun b vs hne h => (((((h.apart _ _ (Ne.symm hne)).apart _ _ (Ne.symm hne)).apart _ _ (Ne.symm hne)).apart _ _ (Ne.symm hne)).apart _ _ (Ne.symm hne)).apart _ _ (Ne.symm hne)) (by repeat (first | with_reducible assumption | with_reducible refine Below.drew ?_ | with_reducible refine below_al ?_ | (with_reducible refine below_set1 (by omega) _ ?_))) (by repeat (first | with_reducible exact HOWN.out | (with_reducible refine OwnI.apart ?_ _ _ _ (by omega)))) ⟨A5, ka5, R5, ra5, S5, sa5, ⟨VarAt.of6 (by simp; omega) (by go_simp) (by go_simp) (by go_simp) (by go_simp) (by go_simp) (by go_simp) (by go_simp) (by go_simp) (by go_simp) (by go_simp) (by go_simp) (by go_simp), W5.out.2.1.keep (Q := Nt b0 b1 (.slice vA k vcap)) (by repeat (first | with_reducible exact Keep.refl _ _ | with_reducible refine Keep.drew ?_ | with_reducible refine Keep.alloc ?_ _ | (with_reducible refine Keep.set ?_ _ _ _ (by unfold Nt; omega)))) OF5.out.1, W5.out.2.2.1.keep (Q := Nt b0 b1 (.slice vA k vcap)) (by repeat (first | with_reducible exact Keep.refl _ _ | with_reducible refine Keep.drew ?_ | with_reducible refine Keep.alloc ?_ _ | (with_reducible refine Keep.set ?_ _ _ _ (by unfold Nt; omega)))) OF5.out.2.1, W5.out.2.2.2.keep (Q := Nt b0 b1 (.slice vA k vcap)) (by repeat (first | with_reducible exact Keep.refl _ _ | with_reducible refine Keep.drew ?_ | with_reducible refine Keep.alloc ?_ _ | (with_reducible refine Keep.set ?_ _ _ _ (by unfold Nt; omega)))) OF5.out.2.2⟩, OF5.out.1, OF5.out.2.1.keep W5.out.2.2.1 (Q := Nt b0 b1 (.slice vA k vcap)) (by repeat (first | with_reducible exact Keep.refl _ _ | with_reducible refine Keep.drew ?_ | with_reducible refine Keep.alloc ?_ _ | (with_reducible refine Keep.set ?_ _ _ _ (by unfold Nt; omega)))) OF5.out.2.1, OF5.out.2.2.keep W5.out.2.2.2 (Q := Nt b0 b1 (.slice vA k vcap)) (by repeat (first | with_reducible exact Keep.refl _ _ | with_reducible refine Keep.drew ?_ | with_reducible refine Keep.alloc ?_ _ | (with_reducible refine Keep.set ?_ _ _ _ (by unfold Nt; omega)))) OF5.out.2.2, fun P h => h.elim⟩)⟩
            case measure => simp [intOf]; omega
          | cons a l =>
            have hG : ∀ j, G j < 18446744073709551616 := by obtain ⟨_, _, _, _, _, _, hW, _⟩ := HR.out.dir.run; exact hW.2.1.1
            have HPD : Calls Try.prog 20 #[dirV p0 p1, .int .i64 1] wr (fun e w' => e = .returned (.int .i64 (a : Int)) ∧ RunD w b0 b1 p0 p1 B0 c n r (.slice vA k vcap) hs (popG 1 G) G w') := by
              have hcc : c ≤ 65536 := by have := HCK.out; omega
              have hrr := HR.out
              have hnn := HN.out
              rw [← hnn] at hrr ⊢
              exact popD hcc hrr HPT.out.free (HPT.out.le a (by simp)).2
            have HAL := HPOP G hG a l HPT.out.free (HPT.out.le a (by simp)).2
            have ha1 := HPT.out.le a (by simp)
            have HPT2 := Lib.hid HPT.out.pop
            generalize popG 1 G = G5 at *
            have da : decide ((0 : Int) < (a : Int)) = true := by rw [decide_eq_true_iff]; omega
            have da' : decide (0 < a) = true := by rw [decide_eq_true_iff]; omega
            have db : decide ((a : Int) < (0 : Int)) = false := by rw [decide_eq_false_iff_not]; omega
            have dn : decide ((c : Int) < (a : Int)) = false := by rw [decide_eq_false_iff_not]; omega
            have dn' : decide (c < a) = false := by rw [decide_eq_false_iff_not]; omega
            clear hG HPOP HNONE HPUSH hcells hpush ha1 HR
            go_wp2_with fail
            (with_reducible refine HPD.mono ?_)
            clear HPD
            rintro e w3 ⟨rfl, hr3⟩
            have HR3 := Lib.hid hr3
            clear hr3
            have HWD := Lib.hid HR3.out.run
            have HVlt := Lib.hid (fun k hk => (HR3.out.own.lt k hk).2)
            have HOWN := Lib.hid HR3.out.own
            have BB := Lib.hid HR3.out.below
            obtain ⟨A1, ka1, R1, ra1, S1, sa1, hW, o0, o1, o2, _⟩ := HWD.out
            have W1 := Lib.hid hW
            have O1 := Lib.hid (And.intro o0 (And.intro o1 o2))
            obtain ⟨c0, c1, c2, c3, c4, c5⟩ := hW.cells
            have HGlt := Lib.hid hW.1.1
            clear hW o0 o1 o2
            have WV := Lib.hid W1.out.1
            have HB0lt := Lib.hid (Nat.lt_of_lt_of_le HLT.out.1.2 HR3.out.size)
            go_wp2_with fail
            (with_reducible refine (HAL A1 ka1 R1 ra1 S1 sa1 _ W1.out.gA W1.out.g0 W1.out.g1).mono ?_)
            clear HAL c0 c1 c2 c3 c4 c5
            rintro e w5 ⟨A5, ka5, R5, ra5, S5, sa5, rfl, ha, hs0, hs1, hb, hP⟩
            go_upto_region 22 with fail
            have hbx : Below w5.heap.size w5 ((w5.alloc (.cells #[.int .i64 1, .int .i64 (c : Int), .slice A5 n ka5, .int .u64 (r : Int), .slice R5 1 ra5, .slice S5 1 sa5] 51)).alloc (.cells #[.int .i64 0, .bool false, .int .i64 (a : Int), .int .u64 0, .slice none 0 0] 37)) := below_pair _ _ _
            have W5 := Lib.hid (WdAt.made (t := 1) (c := (c : Int)) (k := ka5) (r := r) (ra := ra5) (sa := sa5) w5 (.cells #[.int .i64 0, .bool false, .int .i64 (a : Int), .int .u64 0, .slice none 0 0] 37) 51 ha hs0 hs1)
            have O5 := Lib.hid (VarAt.made1 w5 (.cells #[.int .i64 1, .int .i64 (c : Int), .slice A5 n ka5, .int .u64 (r : Int), .slice R5 1 ra5, .slice S5 1 sa5] 51) #[.int .i64 0, .bool false, .int .i64 (a : Int), .int .u64 0, .slice none 0 0] 37)
            have hbn := hb.trans (hbx.mono hb.size)
            have HS5 := Lib.hid (And.intro hs0 hs1)
            have HX5 := Lib.hid hbx
            have HB5 := Lib.hid hb
            have HP5 := Lib.hid hP
            generalize (w5.alloc (.cells #[.int .i64 1, .int .i64 (c : Int), .slice A5 n ka5, .int .u64 (r : Int), .slice R5 1 ra5, .slice S5 1 sa5] 51)).alloc (.cells #[.int .i64 0, .bool false, .int .i64 (a : Int), .int .u64 0, .slice none 0 0] 37) = x5 at hbx hbn W5 O5 HX5 ⊢
            have WVn := Lib.hid (WV.out.below hbn); clear WV; have WV := WVn; clear WVn
            have HOWNn := Lib.hid (HOWN.out.later hbn); clear HOWN; have HOWN := HOWNn; clear HOWNn
            have HR3n := Lib.hid (HR3.out.later hbn); clear HR3; have HR3 := HR3n; clear HR3n
            have BBn := Lib.hid (BB.out.trans (hbn.mono BB.out.size)); clear BB; have BB := BBn; clear BBn
            clear ha hs0 hs1 hb hP hbx hbn
            obtain ⟨_, ⟨p1', p2', p3', p4', p5'⟩, _⟩ := O5.out.five
            have hgx : b1 < x5.heap.size := WV.out.1
            have hlt0 := HLT.out
            have nb : ¬ (w5.heap.size = b1) := by have := HB5.out.size; have := HGlt.out; omega
            have nb' : ¬ (b1 = w5.heap.size) := fun e => nb e.symm
            have OF5 : Hid (OffW (Nt b0 b1 (.slice vA k vcap)) A5 n ∧ OffS (Nt b0 b1 (.slice vA k vcap)) x5 R5 1 ∧ OffS (Nt b0 b1 (.slice vA k vcap)) x5 S5 1) := Lib.hid (by
              obtain ⟨q0, q1, q2⟩ := HP5.out (Nt b0 b1 (.slice vA k vcap)) ⟨fun b hb => ⟨by have := HB0lt.out; omega, by have := HGlt.out; omega, fun k hk => by have := HVlt.out k hk; omega⟩, O1.out.1, O1.out.2.1, O1.out.2.2⟩
              exact ⟨q0, q1.later HS5.out.1 HX5.out, q2.later HS5.out.2 HX5.out⟩)
            obtain ⟨_, ⟨e0, e1, e2, e3, e4, e5⟩, _⟩ := W5.out.1.six
            obtain ⟨zx, ⟨y0, y1, y2, y3, y4, y5⟩, f0, f1, f2, f3, f4, f5⟩ := WV.out.six
            have hbb := BB.out
            have hsz5 := HR3.out.size
            go_upto_region 26 with fail
            refine gen_w (P := fun W => Code.wp _ _ _ _ W) (fun z => RunD w b0 b1 p0 p1 B0 c n r (.slice vA k vcap) hs G5 G5 z) (HR3.out.put (by repeat (first | with_reducible exact Keep.refl _ _ | with_reducible refine Keep.drew ?_ | with_reducible refine Keep.alloc ?_ _ | (with_reducible refine Keep.set ?_ _ _ _ (by unfold Nt; omega)))) (fun b vs hne h => (((((h.apart _ _ (Ne.symm hne)).apart _ _ (Ne.symm hne)).apart _ _ (Ne.symm hne)).apart _ _ (Ne.symm hne)).apart _ _ (Ne.symm hne)).apart _ _ (Ne.symm hne)) (by repeat (first | with_reducible assumption | with_reducible refine Below.drew ?_ | with_reducible refine below_al ?_ | (with_reducible refine below_set1 (by omega) _ ?_))) (by repeat (first | with_reducible exact HOWN.out | (with_reducible refine OwnI.apart ?_ _ _ _ (by omega)))) ⟨A5, ka5, R5, ra5, S5, sa5, ⟨VarAt.of6 (by simp; omega) (by go_simp) (by go_simp) (by go_simp) (by go_simp) (by go_simp) (by go_simp) (by go_simp) (by go_simp) (by go_simp) (by go_simp) (by go_simp) (by go_simp), W5.out.2.1.keep (Q := Nt b0 b1 (.slice vA k vcap)) (by repeat (first | with_reducible exact Keep.refl _ _ | with_reducible refine Keep.drew ?_ | with_reducible refine Keep.alloc ?_ _ | (with_reducible refine Keep.set ?_ _ _ _ (by unfold Nt; omega)))) OF5.out.1, W5.out.2.2.1.keep (Q := Nt b0 b1 (.slice vA k vcap)) (by repeat (first | with_reducible exact Keep.refl _ _ | with_reducible refine Keep.drew ?_ | with_reducible refine Keep.alloc ?_ _ | (with_reducible refine Keep.set ?_ _ _ _ (by unfold Nt; omega)))) OF5.out.2.1, W5.out.2.2.2.keep (Q := Nt b0 b1 (.slice vA k vcap)) (by repeat (first | with_reducible exact Keep.refl _ _ | with_reducible refine Keep.drew ?_ | with_reducible refine Keep.alloc ?_ _ | (with_reducible refine Keep.set ?_ _ _ _ (by unfold Nt; omega)))) OF5.out.2.2⟩, OF5.out.1, OF5.out.2.1.keep W5.out.2.2.1 (Q := Nt b0 b1 (.slice vA k vcap)) (by repeat (first | with_reducible exact Keep.refl _ _ | with_reducible refine Keep.drew ?_ | with_reducible refine Keep.alloc ?_ _ | (with_reducible refine Keep.set ?_ _ _ _ (by unfold Nt; omega)))) OF5.out.2.1, OF5.out.2.2.keep W5.out.2.2.2 (Q := Nt b0 b1 (.slice vA k vcap)) (by repeat (first | with_reducible exact Keep.refl _ _ | with_reducible refine Keep.drew ?_ | with_reducible refine Keep.alloc ?_ _ | (with_reducible refine Keep.set ?_ _ _ _ (by unfold Nt; omega)))) OF5.out.2.2, fun P h => h.elim⟩) ?_
            rintro z hz
            have HZ := Lib.hid hz
            clear hz
            clear e0 e1 e2 e3 e4 e5 y0 y1 y2 y3 y4 y5 f0 f1 f2 f3 f4 f5 zx nb nb' hgx hlt0 hbb hsz5 p1' p2' p3' p4' p5'
            clear HS5 HX5 HB5 HP5 OF5 WV HOWN W1 O1 HGlt HR3 W5 O5 HWD
            have HM9 : Hid (hs.length ≤ 900000) := Lib.hid (by have := HKL.out; omega)
            have HOA : Hid (∀ o, OwnI (z.alloc o) B0 (.slice vA k vcap) hs) := Lib.hid (fun o => HZ.out.own.later (al_below z o))
            have HZ1 : Hid (∀ o, B0 ≤ (z.alloc o).heap.size) := Lib.hid (fun o => Nat.le_trans HZ.out.size (al_below z o).size)
            have HNX : Hid (∀ o v' w', OwnI w' B0 v' (hs ++ [a]) → (z.alloc o).grownBy w' (Value.slice vA k vcap).ownBlock → (v'.ownBlock = (Value.slice vA k vcap).ownBlock ∨ v'.ownBlock = some (z.alloc o).heap.size) → RunD w b0 b1 p0 p1 B0 c n r v' (hs ++ [a]) G5 G5 w') := Lib.hid (fun o v' w' h1 h2 h3 => (HZ.out.later (al_below z o)).next h1 h2 h3)
            clear HZ
            go_upto_region 11 with (at_builtin; (refine wpList_appendI (by rfl) (.tmp 104) (.tmp 106) (by rfl) B0 (.slice vA k vcap) hs (by rfl) (HOA.out _) z.heap.size 1 a (by rfl) (by go_simp) HM9.out (HZ1.out _) ?_); (intro v9 w9 hown9 hg9 hv9; have HZ := Lib.hid (HNX.out _ _ _ hown9 hg9 hv9); clear hown9 hg9 hv9 HNX HOA HZ1))
            go_wp2_with fail
            go_roundw
            case rel => exact ⟨i + 1, G5, l, hs ++ [a], by omega, by go_num, HPT2.out, HZ.out⟩
            case measure => simp [intOf]; omega


    · obtain rfl : i = ln := by omega
      have d1 : decide ((i : Int) < (i : Int)) = false := by rw [decide_eq_false_iff_not]; omega
      have d1' : decide (i < i) = false := by rw [decide_eq_false_iff_not]; omega
      have hn9 : n ≤ 140737488355328 := by have h1 := HN.out; have h2 := HCK.out; unfold sizeN at h1; omega
      obtain ⟨⟨A1, ka1, R1, ra1, S1, sa1, hW1, _⟩, _, _⟩ := HR.out.dir
      have W1 := Lib.hid hW1
      obtain ⟨c0, c1, c2, c3, c4, c5⟩ := hW1.cells
      obtain ⟨A2, ka2, R2, ra2, S2, sa2, hW2, _⟩ := HR.out.run
      have W2 := Lib.hid hW2
      obtain ⟨g0, g1, g2, g3, g4, g5⟩ := hW2.cells
      have HSM := sameW_at 1 (c : Int) A1 A2 n ka1 ka2 G hn9 r R1 1 ra1 S1 1 sa1 R2 ra2 S2 sa2 (zerosS 1) (zerosS 1) wr W1.out.gA W2.out.gA W1.out.g0 W1.out.g1 W2.out.g0 W2.out.g1
      clear hW1 hW2 HPOP HNONE HPUSH hcells hn9
      go_wp2_with fail
      (with_reducible refine HSM.mono ?_)
      clear HSM c0 c1 c2 c3 c4 c5 g0 g1 g2 g3 g4 g5
      rintro e w2 ⟨rfl, hb⟩
      have hbb := HR.out.below.trans (hb.mono HR.out.below.size)
      go_wp2_with fail
      go_ret
      exact ⟨rfl, hbb⟩

section
set_option maxRecDepth 100000
set_option maxHeartbeats 2000000
variable {H : Type} {enc : TypeId × Value → H} {w : World}
theorem open_a {v : Value} {d : DataW H} {ps : List MemPlace} {base : Nat} (hval : Value.okWide Try.prog w .any base 5 v) (h : DataW.Trod enc Try.prog w 0 (fun _ => true) true 5 v d ps) (hs : Sized Try.prog 5 d) (hlt : ∀ z ∈ ps, z.block < w.heap.size) :
    ∃ (a : Nat), v = .int .u8 (a : Int) ∧ a < 256 := by
  obtain ⟨a0, rfl⟩ := okWide_int Try.underlying5 hval
  obtain ⟨fuel, hf0⟩ := h
  have hf : DataW.trod enc Try.prog w 0 (fun _ => true) true fuel 5 [.int .u8 a0] = some (d, ps) := hf0
  obtain ⟨a, e0, ha⟩ := leaf_u8 Try.underlying5 hf
  cases e0
  exact ⟨_, rfl, ha⟩
theorem open_b {v : Value} {d : DataW H} {ps : List MemPlace} {base : Nat} (hval : Value.okWide Try.prog w .any base 30 v) (h : DataW.Trod enc Try.prog w 0 (fun _ => true) true 30 v d ps) (hs : Sized Try.prog 30 d) (hlt : ∀ z ∈ ps, z.block < w.heap.size) :
    ∃ (bA : Option Addr) (bL bC : Nat) (bx : List Nat), v = .slice bA bL bC ∧ (bL ≤ bC ∧ bL ≤ 140737488355328 ∧ AtB w bA bL bx) := by
  obtain ⟨a0, len, cap, rfl⟩ := okWide_slice Try.underlying30 hval
  obtain ⟨fuel, hf0⟩ := h
  have hf : DataW.trod enc Try.prog w 0 (fun _ => true) true fuel 30 [.slice a0 len cap] = some (d, ps) := hf0
  obtain ⟨bA, bL, bC, bx, e0, hb⟩ := leaf_bytes hf hs hlt
  cases e0
  exact ⟨_, _, _, _, rfl, hb⟩
end

set_option maxRecDepth 100000 in
set_option maxHeartbeats 8000000 in
theorem lifted (os : Os) (started : os.Started) (H : Type) (enc : TypeId × Value → H) :
    ReturnsInHanded {} Try.checked os 7 .any (Rows.poolDirectSpec.pre6 enc Try.prog Try.f7 Rows.poolDirectRow.domain false) (Rows.poolDirectSpec.post enc Try.prog Try.f7 false true false false) := by
  refine law_lifted (C := Try.checked) own started (by kernel_rfl) Try.func7
    (ChangeSpec.witness6 (enc := enc) (C := Try.checked) false ⟨#[], #[.int .u8 0, .slice none 0 0], []⟩ 8 (by kernel_rfl) (by kernel_rfl) (by kernel_rfl) (by kernel_rfl))
    (by kernel_rfl) (by kernel_rfl) Try.underlying4 rfl (by kernel_rfl) ?_
  intro W base args ds before hval hA hwt hlt
  have hA' : DataW.TrodAll enc Try.prog W 0 (fun _ => true) true Try.f7.params.toList args.toList ds before := hA
  have hval' : ∀ (j : Nat) t v, Try.f7.params[j]? = some t → args[j]? = some v → Value.okWide Try.prog W .any base t v := hval
  have hwt' : (DataW.weightsEach Try.prog Try.f7.params.toList ds).all (· ≤ reachBytes) = true := hwt
  rw [Try.params7] at hA' hval' hwt'
  obtain ⟨v0, vs0, d0, ds0, p0, q0, hargs, rfl, rfl, k0, r0⟩ := trodAll_cons hA'
  obtain ⟨v1, vs1, d1, ds1, p1, q1, rfl, rfl, rfl, k1, r1⟩ := trodAll_cons r0
  obtain ⟨rfl, rfl, rfl⟩ := trodAll_nil r1
  obtain rfl : args = #[v0, v1] := by cases args; simp_all
  obtain ⟨a, rfl, ha⟩ := open_a (hval' 0 5 v0 rfl rfl) k0 (sized_of hwt' (j := 0) (t := 5) rfl rfl) (fun x hx => hlt x (by simp [hx]))
  obtain ⟨bA, bL, bC, bx, rfl, hb⟩ := open_b (hval' 1 30 v1 rfl rfl) k1 (sized_of hwt' (j := 1) (t := 30) rfl rfl) (fun x hx => hlt x (by simp [hx]))
  refine ⟨rfl, ?_⟩
  obtain ⟨hbc, hb9, hbat⟩ := hb
  by_cases hln : bL ≤ 30
  · exact walk a ha bA bL bC bx hln W (Lib.hid hbat)
  · exact walkA a ha bA bL bC bx (by omega) W (Lib.hid hbat)

theorem over : Rows.poolDirectRow.holds Try.pinned (OpenSpec.ofChange Rows.poolDirectSpec) :=
  OpenClaim.holds_of_wide 7 Try.f7 rfl rfl rfl rfl rfl rfl rfl ⟨rfl, rfl, rfl, rfl, rfl⟩ rfl rfl rfl rfl rfl (by kernel_rfl) Try.func7 (by kernel_rfl)
    (of_decide_eq_true (by kernel_rfl)) (by unfold Func.isWrapper; first | (rw [if_pos (by decide +kernel)]; kernel_rfl) | (rw [if_neg (by decide +kernel)]; exact ⟨rfl, rfl⟩))
    (fun os started H enc _ => lifted os started H enc)

/-- The statement. -/
theorem proved : Rows.PoolDirectSaid :=
  over
#print axioms proved
end Go.Proofs.Ytadknblgfcgkpaa.poolDirect
