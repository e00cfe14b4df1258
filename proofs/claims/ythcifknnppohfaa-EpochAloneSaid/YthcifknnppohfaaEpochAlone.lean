/-
  EpochAlone: stepping alone, where no other thread is pinned, each record that is free, or retired, is handed out, before none is; and one that is had isn't; for 8 records, 40 operations. No condition beyond the statement's own.
-/
import Derived.Test.YthcifknnppohfaaEpcOne
import Derived.Test.YthcifknnppohfaaAccLeaf
import Derived.Test.YthcifknnppohfaaLaw
import Derived.Test.YthcifknnppohfaaFields
import Derived.Deep.Cut
import Derived.Deep.CutRange
import Derived.Deep.RegionHeld3
namespace Go.Proofs.Ythcifknnppohfaa.epochAlone
open Go.ChangeShapes Go.WideShapes Go.ChangeAt Go.RowKit Go.Deep Go.BigFrame
set_option linter.unusedVariables false
theorem own : ownKnob Try.prog.godebug = none := by kernel_rfl

set_option maxRecDepth 100000 in
set_option maxHeartbeats 16000000 in
theorem walkA (c0 : Nat) (hc0 : c0 < 256) (LA : Option Addr) (ln lc : Nat) (xs : List Nat) (hln : 40 < ln) (w : World) (HL : Hid (AtB w LA ln xs)) :
    Calls Try.prog 4 #[.int .u8 (c0 : Int), .slice LA ln lc] w fun e w' => e = .returned (.bool true) ∧ Below w.heap.size w w' := by
  obtain ⟨r, hr⟩ : ∃ r : Nat, r = 0 := ⟨0, rfl⟩
  obtain ⟨c, hc⟩ : ∃ c, c0 % 9 = c := ⟨_, rfl⟩
  have hc1 : c ≤ 8 := by omega
  have q1 : (c0 : Int) % 9 = (c : Int) := by omega
  have dl0 : decide ((40 : Int) < (ln : Int)) = true := by rw [decide_eq_true_iff]; omega
  have dl0' : decide (40 < ln) = true := by rw [decide_eq_true_iff]; omega
  have HNEW : ∀ w, Calls Try.prog 15 #[.int .i64 3, .int .i64 (c : Int)] w (NewWdR w 3 c 3 (sizeN 3 c) (newF 3 c) r) := fun w => newWdR 3 c (by decide) (by decide) (by omega) hr w
  have HB0 : Hid (EA c 0 (newF 3 c) []) := Lib.hid (EA.start (by omega))
  have HOPS := fun (me : Nat) (k u : Int) (d : Nat) (er : Int) (oi : Bool) (NI : Int) (G GF : Nat → Nat) (s most : Nat) (hme : me < 3) (h : Ops 3 me k u (sizeN 3 c) G d GF s) (hs : s ≤ most) (hmo : most ≤ 1000) (hu : k = 5 → 1 ≤ u ∧ u < 1048576) (he : eErr k = er) (ho : eIs k d = oi) (hN : (eN k d : Int) = NI) => opsAlone (c := c) (by decide) (by decide) (by omega) hme h hs hmo hu he ho hN r
  have HCK := Lib.hid hc1
  have BW : Hid (w.heap.size ≤ w.heap.size) := Lib.hid (Nat.le_refl _)
  have HALL := fun i me G hs (h : EA c i G hs) (hi : i < 40) (hme : me < 3) => h.alloc hi hc1 hme
  have HRET := fun i me m q G hs (h : EA c i G hs) (hq : hs[m]? = some q) => h.retire (me := me) hc1 hq
  generalize newF 3 c = G0 at *
  generalize hn : sizeN 3 c = n at *
  clear hr hc hn
  go_enter Try.func4, Try.ntmps4
  go_wp2_with fail
  (with_reducible refine (epcShown _).mono ?_)
  rintro e w1 ⟨rfl, hb⟩
  have BB := Lib.hid hb
  clear hb
  have BWn : Hid (w.heap.size ≤ w1.heap.size) := Lib.hid BB.out.size
  clear BW; have BW := BWn; clear BWn
  go_wp2_with fail
  try rw [q1]
  try go_wp2_with fail
  go_ret
  exact ⟨rfl, BB.out⟩

set_option maxRecDepth 100000 in
set_option maxHeartbeats 16000000 in
theorem walk (c0 : Nat) (hc0 : c0 < 256) (LA : Option Addr) (ln lc : Nat) (xs : List Nat) (hln : ln ≤ 40) (w : World) (HL : Hid (AtB w LA ln xs)) :
    Calls Try.prog 4 #[.int .u8 (c0 : Int), .slice LA ln lc] w fun e w' => e = .returned (.bool true) ∧ Below w.heap.size w w' := by
  obtain ⟨r, hr⟩ : ∃ r : Nat, r = 0 := ⟨0, rfl⟩
  obtain ⟨c, hc⟩ : ∃ c, c0 % 9 = c := ⟨_, rfl⟩
  have hc1 : c ≤ 8 := by omega
  have q1 : (c0 : Int) % 9 = (c : Int) := by omega
  have dl0 : decide ((40 : Int) < (ln : Int)) = false := by rw [decide_eq_false_iff_not]; omega
  have dl0' : decide (40 < ln) = false := by rw [decide_eq_false_iff_not]; omega
  have HNEW : ∀ w, Calls Try.prog 15 #[.int .i64 3, .int .i64 (c : Int)] w (NewWdR w 3 c 3 (sizeN 3 c) (newF 3 c) r) := fun w => newWdR 3 c (by decide) (by decide) (by omega) hr w
  have HB0 : Hid (EA c 0 (newF 3 c) []) := Lib.hid (EA.start (by omega))
  have HOPS := fun (me : Nat) (k u : Int) (d : Nat) (er : Int) (oi : Bool) (NI : Int) (G GF : Nat → Nat) (s most : Nat) (hme : me < 3) (h : Ops 3 me k u (sizeN 3 c) G d GF s) (hs : s ≤ most) (hmo : most ≤ 1000) (hu : k = 5 → 1 ≤ u ∧ u < 1048576) (he : eErr k = er) (ho : eIs k d = oi) (hN : (eN k d : Int) = NI) => opsAlone (c := c) (by decide) (by decide) (by omega) hme h hs hmo hu he ho hN r
  have HCK := Lib.hid hc1
  have BW : Hid (w.heap.size ≤ w.heap.size) := Lib.hid (Nat.le_refl _)
  have HALL := fun i me G hs (h : EA c i G hs) (hi : i < 40) (hme : me < 3) => h.alloc hi hc1 hme
  have HRET := fun i me m q G hs (h : EA c i G hs) (hq : hs[m]? = some q) => h.retire (me := me) hc1 hq
  generalize newF 3 c = G0 at *
  generalize hn : sizeN 3 c = n at *
  have HLN : Hid (ln ≤ 40) := Lib.hid hln
  clear hr hc hn hln
  go_enter Try.func4, Try.ntmps4
  go_wp2_with fail
  (with_reducible refine (epcShown _).mono ?_)
  rintro e w1 ⟨rfl, hb⟩
  have BB := Lib.hid hb
  clear hb
  have BWn : Hid (w.heap.size ≤ w1.heap.size) := Lib.hid BB.out.size
  clear BW; have BW := BWn; clear BWn
  go_wp2_with fail
  try rw [q1]
  (with_reducible refine (HNEW _).mono ?_)
  clear HNEW q1
  rintro e w0 ⟨A0, ka0, R0, ra0, S0, sa0, rfl, ha, hs0, hs1, hb, hP⟩
  go_upto_region 6 with fail
  have hal := al_below w0 (.cells #[.int .i64 3, .int .i64 (c : Int), .slice A0 n ka0, .int .u64 (r : Int), .slice R0 3 ra0, .slice S0 3 sa0] 51)
  have hbn := hb.trans (hal.mono hb.size)
  have W0 : Hid (WdFrom (fun b => b ≠ w0.heap.size) (fun _ => False) (w0.alloc (.cells #[.int .i64 3, .int .i64 (c : Int), .slice A0 n ka0, .int .u64 (r : Int), .slice R0 3 ra0, .slice S0 3 sa0] 51)) w0.heap.size 3 (c : Int) n r 3 G0 (zerosS 3) (zerosS 3)) := Lib.hid ⟨A0, ka0, R0, ra0, S0, sa0, WdAt.made0 (t := 3) (c := (c : Int)) (k := ka0) (r := r) (ra := ra0) (sa := sa0) w0 51 ha hs0 hs1, ha.old.mono fun b hb => (by omega), (hs0.old.mono fun b hb => (by omega : b ≠ w0.heap.size)).later hs0 hal, (hs1.old.mono fun b hb => (by omega : b ≠ w0.heap.size)).later hs1 hal, fun P h => h.elim⟩
  generalize w0.alloc (.cells #[.int .i64 3, .int .i64 (c : Int), .slice A0 n ka0, .int .u64 (r : Int), .slice R0 3 ra0, .slice S0 3 sa0] 51) = x0 at hal hbn W0 ⊢
  have BBn := Lib.hid (BB.out.trans (hbn.mono BB.out.size)); clear BB; have BB := BBn; clear BBn
  have HG0 : Hid (w.heap.size ≤ w0.heap.size) := Lib.hid (Nat.le_trans BW.out hb.size)
  generalize w0.heap.size = b0 at W0 HG0 ⊢
  clear ha hs0 hs1 hb hP hal hbn
  have hgz : b0 < x0.heap.size := W0.out.lt
  have HZ : Hid (RunU3 w b0 (b0 + 1) 3 (c : Int) n r 3 (.slice none 0 0) (.slice none 0 0) [] [] G0 x0) := Lib.hid ⟨BB.out, hgz, ⟨HG0.out, Nat.lt_succ_self _⟩, W0.out.sub (fun b _ hb => ⟨hb, (fun k hk => by cases hk), (fun k hk => by cases hk)⟩), OwnI.nil _ _, OwnI.nil _ _, fun k hk => by cases hk⟩
  clear W0 hgz BB
  go_wp2_with fail
  clear dl0 dl0'
  go_loopw [8, 9] (fun u8 u9 wr => ∃ (i : Nat) (G : Nat → Nat) (hs : List Nat), i ≤ ln ∧ u9 = .int .i64 (i : Int) ∧ EA c i G hs ∧ RunU3 w b0 (b0 + 1) 3 (c : Int) n r 3 (.slice none 0 0) u8 [] hs G wr) (fun _ u _ => ln - (intOf u).toNat)
  case atStart => exact ⟨0, G0, [], Nat.zero_le _, rfl, HB0.out, HZ.out⟩
  case round =>
    clear HZ HB0
    obtain ⟨i, G, hs, hiln, rfl, hea, hrun⟩ := hrel
    have HR := Lib.hid hrun
    have HEA := Lib.hid hea
    obtain ⟨vA, vcap, rfl, hvc, hmx, hcells⟩ := hrun.held.form
    have HLH := Lib.hid (fun k hk => (hrun.held.lt k hk).2)
    have HOLD := Lib.hid hrun.old
    have BB := Lib.hid hrun.below
    have HWD := Lib.hid hrun.run
    have HSZR := Lib.hid hrun.size
    clear hrun hea hmx hcells
    have hln40 := HLN.out
    have hcc := HCK.out
    by_cases hlt : i < ln
    · have d1 : decide ((i : Int) < (ln : Int)) = true := by rw [decide_eq_true_iff]; omega
      have d1' : decide (i < ln) = true := by rw [decide_eq_true_iff]; omega
      obtain ⟨lb, lo, rfl, hlb, hlc⟩ := (AtB.later HL BB.out).2.2.2 (by omega)
      have hx := hlc i hlt
      have hxb : xs.getD i 0 < 256 := by
        have h1 := HL.out.2.1
        have h2 := HL.out.1
        rw [List.getD_eq_getElem?_getD, List.getElem?_eq_getElem (by omega)]
        exact h1 _ (List.getElem_mem _)
      generalize xs.getD i 0 = x at hx hxb
      have i0 : (0 : Int) ≤ (i : Int) := by omega
      have i1 : (i : Int) < (ln : Int) := by omega
      clear hlc
      generalize hk : hs.length = k at *
      have HKL := Lib.hid hk
      clear hk
      obtain ⟨me, hmx⟩ : ∃ me, x / 2 % 3 = me := ⟨_, rfl⟩
      have hme : me < 3 := by omega
      have qme : (x : Int) / 2 % 3 = (me : Int) := by omega
      clear hmx
      go_upto_region 11 with fail
      try rw [qme]
      clear qme
      by_cases hpop : x % 2 = 0
      · have dx : ((x : Int) % 2 == 0) = true := by rw [beq_iff_eq]; omega
        clear hpop
        obtain ⟨a, G5, G6, hops, hops2, hh⟩ := HALL i me G hs HEA.out (by have := HLN.out; omega) hme
        rcases hh with ⟨rfl, hkc, hnx⟩ | ⟨h1a, hac, hnin, hkc, hnx⟩
        · rw [HKL.out] at hkc
          have dkc : ((k : Int) == (c : Int)) = true := by rw [beq_iff_eq]; omega
          have dkc' : (k == c) = true := by rw [beq_iff_eq]; omega
          have HKC := Lib.hid hkc
          clear hkc
          have HNX := Lib.hid hnx
          clear hnx
          have HIN0 : Hid (decide (0 ∈ hs) = false) := Lib.hid (decide_eq_false fun hin => by have := HEA.out.mem 0 hin; omega)
          have dc0 : decide ((c : Int) < 0) = false := by rw [decide_eq_false_iff_not]; omega
          have HAL : ∀ (A : Option Addr) (ka : Nat) (R : Option Addr) (ra : Nat) (S : Option Addr) (sa : Nat) (w : World), Hid (AtW w A n G) → Hid (StmsAt w R 3 (zerosS 3)) → Hid (StmsAt w S 3 (zerosS 3)) →
              Calls Try.prog 16 #[.agg #[.int .i64 3, .int .i64 (c : Int), .slice A n ka, .int .u64 (r : Int), .slice R 3 ra, .slice S 3 sa], .int .i64 (me : Int), .agg #[.int .i64 6, .int .i64 0, .int .i64 0, .int .u64 0], .int .i64 (40 + 20 * (c : Int))] w (AloneEndE w 3 (c : Int) A n r R S 3 G5 (zerosS 3) (zerosS 3) 0 false 0) := by
            have h := HOPS me 6 0 0 0 false 0 G G5 _ (40 + 20 * c) hme hops (Nat.le_refl _) (by have := HCK.out; omega) (by decide) rfl rfl rfl
            rwa [show ((40 + 20 * c : Nat) : Int) = 40 + 20 * (c : Int) by omega] at h
          have HUN : ∀ (A : Option Addr) (ka : Nat) (R : Option Addr) (ra : Nat) (S : Option Addr) (sa : Nat) (w : World), Hid (AtW w A n G5) → Hid (StmsAt w R 3 (zerosS 3)) → Hid (StmsAt w S 3 (zerosS 3)) →
              Calls Try.prog 16 #[.agg #[.int .i64 3, .int .i64 (c : Int), .slice A n ka, .int .u64 (r : Int), .slice R 3 ra, .slice S 3 sa], .int .i64 (me : Int), .agg #[.int .i64 4, .int .i64 0, .int .i64 0, .int .u64 0], .int .i64 9] w (AloneEndE w 3 (c : Int) A n r R S 3 G6 (zerosS 3) (zerosS 3) 0 false 0) := HOPS me 4 0 0 0 false 0 G5 G6 9 9 hme hops2 (Nat.le_refl _) (by decide) (by decide) rfl rfl rfl
          obtain ⟨A1, ka1, R1, ra1, S1, sa1, hW, o0, o1, o2, _⟩ := HWD.out
          have W1 := Lib.hid hW
          have O1 := Lib.hid (And.intro o0 (And.intro o1 o2))
          obtain ⟨c0, c1, c2, c3, c4, c5⟩ := hW.cells
          have HGlt := Lib.hid hW.1.1
          clear hW o0 o1 o2
          clear hops hops2 HWD HOPS HALL HRET
          go_wp2_with fail
          (with_reducible refine (HAL A1 ka1 R1 ra1 S1 sa1 _ W1.out.gA W1.out.g0 W1.out.g1).mono ?_)
          clear HAL c0 c1 c2 c3 c4 c5
          rintro e w3 ⟨A3, ka3, R3, ra3, S3, sa3, rfl, ha, hs0, hs1, hb, hP⟩
          go_upto_region 13 with fail
          have hbx : Below w3.heap.size w3 ((w3.alloc (.cells #[.int .i64 3, .int .i64 (c : Int), .slice A3 n ka3, .int .u64 (r : Int), .slice R3 3 ra3, .slice S3 3 sa3] 51)).alloc (.cells #[.int .i64 0, .bool false, .int .i64 0, .int .u64 0, .slice none 0 0] 37)) := below_pair _ _ _
          have W3 := Lib.hid (WdAt.made (t := 3) (c := (c : Int)) (k := ka3) (r := r) (ra := ra3) (sa := sa3) w3 (.cells #[.int .i64 0, .bool false, .int .i64 0, .int .u64 0, .slice none 0 0] 37) 51 ha hs0 hs1)
          have O3 := Lib.hid (VarAt.made1 w3 (.cells #[.int .i64 3, .int .i64 (c : Int), .slice A3 n ka3, .int .u64 (r : Int), .slice R3 3 ra3, .slice S3 3 sa3] 51) #[.int .i64 0, .bool false, .int .i64 0, .int .u64 0, .slice none 0 0] 37)
          have hbn := hb.trans (hbx.mono hb.size)
          have HS3 := Lib.hid (And.intro hs0 hs1)
          have HX3 := Lib.hid hbx
          have HB3 := Lib.hid hb
          have HP3 := Lib.hid hP
          generalize (w3.alloc (.cells #[.int .i64 3, .int .i64 (c : Int), .slice A3 n ka3, .int .u64 (r : Int), .slice R3 3 ra3, .slice S3 3 sa3] 51)).alloc (.cells #[.int .i64 0, .bool false, .int .i64 0, .int .u64 0, .slice none 0 0] 37) = x3 at hbx hbn W3 O3 HX3 ⊢
          have HRn := Lib.hid (HR.out.later hbn); clear HR; have HR := HRn; clear HRn
          have BBn := Lib.hid (BB.out.trans (hbn.mono BB.out.size)); clear BB; have BB := BBn; clear BBn
          clear ha hs0 hs1 hb hP hbx hbn
          have HRP : Hid (RunP3 w b0 (b0 + 1) 3 (c : Int) n r 3 (.slice none 0 0) (.slice vA k vcap) [] hs G w3.heap.size (w3.heap.size + 1) [.int .i64 0, .bool false, .int .i64 0, .int .u64 0, .slice none 0 0] G5 x3) := Lib.hid (by
            obtain ⟨q0, q1, q2⟩ := HP3.out (Nt2 b0 (.slice none 0 0) (.slice vA k vcap)) ⟨fun b hb => HOLD.out b hb, O1.out.1, O1.out.2.1, O1.out.2.2⟩
            have hw3 := HB3.out.size
            have hsz := HSZR.out
            exact ⟨HR.out, ⟨A3, ka3, R3, ra3, S3, sa3, W3.out, q0, q1.later HS3.out.1 HX3.out, q2.later HS3.out.2 HX3.out, fun P h => h.elim⟩, O3.out, ⟨by omega, by omega⟩, fun k hk => by
              rcases hk with hk | hk
              · cases hk
              · have := HLH.out k hk; omega⟩)
          have HIN : Calls Try.prog 17 #[.slice vA k vcap, .int .i64 0] x3 fun e w' => e = .returned (.bool false) ∧ x3 = w' := by
            have h := in_at vA k vcap hs (b0 + 1) 0 x3 (Lib.hid HRP.out.u.held) (by rw [HKL.out]; have := HCK.out; have := HKC.out; omega)
            rw [HIN0.out] at h
            exact h
          have HOLD3 := Lib.hid HRP.out.u.old
          have HSZ3 := Lib.hid HRP.out.u.size
          have HLX3 := Lib.hid (fun k hk => (HRP.out.u.held.lt k hk).2)
          obtain ⟨_, ⟨p1, p2, p3, p4, p5⟩, _⟩ := HRP.out.out.five
          clear W3 O3 HS3 HX3 HB3 HP3 HR W1 O1 HGlt HOLD HIN0
          go_wp2_with fail
          (with_reducible refine HIN.mono ?_)
          clear HIN
          rintro e w9 ⟨rfl, rfl⟩
          obtain ⟨A5, ka5, R5, ra5, S5, sa5, hW5, o0, o1, o2, _⟩ := HRP.out.next
          have W5 := Lib.hid hW5
          have O5n := Lib.hid (And.intro o0 (And.intro o1 o2))
          obtain ⟨c0, c1, c2, c3, c4, c5⟩ := hW5.cells
          have hfar3 := HRP.out.far.2
          clear hW5 o0 o1 o2
          go_wp2_with fail
          (with_reducible refine (HUN A5 ka5 R5 ra5 S5 sa5 _ W5.out.gA W5.out.g0 W5.out.g1).mono ?_)
          clear HUN c0 c1 c2 c3 c4 c5 p1 p2 p3 p4 p5
          rintro e w4 ⟨A4, ka4, R4, ra4, S4, sa4, rfl, ha, hs0, hs1, hb, hP⟩
          go_upto_region 16 with fail
          have hbx : Below w4.heap.size w4 ((w4.alloc (.cells #[.int .i64 3, .int .i64 (c : Int), .slice A4 n ka4, .int .u64 (r : Int), .slice R4 3 ra4, .slice S4 3 sa4] 51)).alloc (.cells #[.int .i64 0, .bool false, .int .i64 0, .int .u64 0, .slice none 0 0] 37)) := below_pair _ _ _
          have W4 := Lib.hid (WdAt.made (t := 3) (c := (c : Int)) (k := ka4) (r := r) (ra := ra4) (sa := sa4) w4 (.cells #[.int .i64 0, .bool false, .int .i64 0, .int .u64 0, .slice none 0 0] 37) 51 ha hs0 hs1)
          have O4 := Lib.hid (VarAt.made1 w4 (.cells #[.int .i64 3, .int .i64 (c : Int), .slice A4 n ka4, .int .u64 (r : Int), .slice R4 3 ra4, .slice S4 3 sa4] 51) #[.int .i64 0, .bool false, .int .i64 0, .int .u64 0, .slice none 0 0] 37)
          have hbn := hb.trans (hbx.mono hb.size)
          have HS4 := Lib.hid (And.intro hs0 hs1)
          have HX4 := Lib.hid hbx
          have HB4 := Lib.hid hb
          have HP4 := Lib.hid hP
          generalize (w4.alloc (.cells #[.int .i64 3, .int .i64 (c : Int), .slice A4 n ka4, .int .u64 (r : Int), .slice R4 3 ra4, .slice S4 3 sa4] 51)).alloc (.cells #[.int .i64 0, .bool false, .int .i64 0, .int .u64 0, .slice none 0 0] 37) = x4 at hbx hbn W4 O4 HX4 ⊢
          have HRPn := Lib.hid (HRP.out.later hbn); clear HRP; have HRP := HRPn; clear HRPn
          have BBn := Lib.hid (BB.out.trans (hbn.mono BB.out.size)); clear BB; have BB := BBn; clear BBn
          clear ha hs0 hs1 hb hP hbx hbn
          have HRQ : Hid (RunP3 w b0 (b0 + 1) 3 (c : Int) n r 3 (.slice none 0 0) (.slice vA k vcap) [] hs G w4.heap.size (w3.heap.size + 1) [.int .i64 0, .bool false, .int .i64 0, .int .u64 0, .slice none 0 0] G6 x4) := Lib.hid (by
            obtain ⟨q0, q1, q2⟩ := HP4.out (Nt2 b0 (.slice none 0 0) (.slice vA k vcap)) ⟨fun b hb => HOLD3.out b hb, O5n.out.1, O5n.out.2.1, O5n.out.2.2⟩
            have hw3 := HB4.out.size
            have hsz := HSZ3.out
            exact ⟨HRP.out.u, ⟨A4, ka4, R4, ra4, S4, sa4, W4.out, q0, q1.later HS4.out.1 HX4.out, q2.later HS4.out.2 HX4.out, fun P h => h.elim⟩, HRP.out.out, ⟨by have := HSZ3.out; omega, by omega⟩, fun k hk => by
              rcases hk with hk | hk
              · cases hk
              · exact ⟨by have := (HRP.out.u.held.lt k hk).2; have := HLX3.out k hk; omega, (HRP.out.off k (.inr hk)).2⟩⟩)
          clear W4 O4 HS4 HX4 HB4 HP4 HRP W5 O5n HOLD3 HSZ3 BB
          obtain ⟨A8, ka8, R8, ra8, S8, sa8, hW8, _⟩ := HRQ.out.u.run
          obtain ⟨zx, ⟨y0, y1, y2, y3, y4, y5⟩, f0, f1, f2, f3, f4, f5⟩ := hW8.1.six
          obtain ⟨A9, ka9, R9, ra9, S9, sa9, hW9, o0, o1, o2, _⟩ := HRQ.out.next
          obtain ⟨_, ⟨e0, e1, e2, e3, e4, e5⟩, _⟩ := hW9.1.six
          have W9 := Lib.hid hW9
          have OF9 := Lib.hid (And.intro o0 (And.intro o1 o2))
          have HPL := Lib.hid HRQ.out.u.pile
          have HHL := Lib.hid HRQ.out.u.held
          have HVO := Lib.hid HRQ.out.out
          have hbel := HRQ.out.u.below
          have hfar := HRQ.out.far.1
          have hfar2 := HRQ.out.far.2
          have nb : ¬ (w4.heap.size = b0) := by omega
          have nb' : ¬ (b0 = w4.heap.size) := fun e => nb e.symm
          have hglt := HRQ.out.u.lt
          clear hW8 hW9 o0 o1 o2
          have hfo : ¬ (w3.heap.size + 1 = b0) := by omega
          go_upto_region 19 with fail
          refine gen_w (P := fun W => Code.wp _ _ _ _ W) (fun z => RunU3 w b0 (b0 + 1) 3 (c : Int) n r 3 (.slice none 0 0) (.slice vA k vcap) [] hs G6 z ∧ VarAt z (w3.heap.size + 1) [.int .i64 0, .bool false, .int .i64 0, .int .u64 0, .slice none 0 0]) ⟨(HRQ.out.u.put (by repeat (first | with_reducible assumption | with_reducible refine Below.drew ?_ | with_reducible refine below_al ?_ | (with_reducible refine below_set1 (by omega) _ ?_))) (by simp) (by repeat (first | with_reducible exact HPL.out | (with_reducible refine OwnI.apart ?_ _ _ _ (by omega)))) (by repeat (first | with_reducible exact HHL.out | (with_reducible refine OwnI.apart ?_ _ _ _ (by omega)))) ⟨A9, ka9, R9, ra9, S9, sa9, ⟨VarAt.of6 (by simp; omega) (by go_simp) (by go_simp) (by go_simp) (by go_simp) (by go_simp) (by go_simp) (by go_simp) (by go_simp) (by go_simp) (by go_simp) (by go_simp) (by go_simp), W9.out.2.1.keep (Q := Nt2 b0 (.slice none 0 0) (.slice vA k vcap)) (by repeat (first | with_reducible exact Keep.refl _ _ | with_reducible refine Keep.drew ?_ | with_reducible refine Keep.alloc ?_ _ | (with_reducible refine Keep.set ?_ _ _ _ (by unfold Nt2; omega)))) OF9.out.1, W9.out.2.2.1.keep (Q := Nt2 b0 (.slice none 0 0) (.slice vA k vcap)) (by repeat (first | with_reducible exact Keep.refl _ _ | with_reducible refine Keep.drew ?_ | with_reducible refine Keep.alloc ?_ _ | (with_reducible refine Keep.set ?_ _ _ _ (by unfold Nt2; omega)))) OF9.out.2.1, W9.out.2.2.2.keep (Q := Nt2 b0 (.slice none 0 0) (.slice vA k vcap)) (by repeat (first | with_reducible exact Keep.refl _ _ | with_reducible refine Keep.drew ?_ | with_reducible refine Keep.alloc ?_ _ | (with_reducible refine Keep.set ?_ _ _ _ (by unfold Nt2; omega)))) OF9.out.2.2⟩, OF9.out.1, OF9.out.2.1.keep W9.out.2.2.1 (Q := Nt2 b0 (.slice none 0 0) (.slice vA k vcap)) (by repeat (first | with_reducible exact Keep.refl _ _ | with_reducible refine Keep.drew ?_ | with_reducible refine Keep.alloc ?_ _ | (with_reducible refine Keep.set ?_ _ _ _ (by unfold Nt2; omega)))) OF9.out.2.1, OF9.out.2.2.keep W9.out.2.2.2 (Q := Nt2 b0 (.slice none 0 0) (.slice vA k vcap)) (by repeat (first | with_reducible exact Keep.refl _ _ | with_reducible refine Keep.drew ?_ | with_reducible refine Keep.alloc ?_ _ | (with_reducible refine Keep.set ?_ _ _ _ (by unfold Nt2; omega)))) OF9.out.2.2, fun P h => h.elim⟩), (by repeat (first | with_reducible exact HVO.out | (with_reducible refine VarAt.apart ?_ _ _ (by omega))))⟩ ?_
          rintro z ⟨hz, hvz⟩
          have HZ := Lib.hid hz
          obtain ⟨_, ⟨p1, p2, p3, p4, p5⟩, _⟩ := hvz.five
          clear hz hvz W9 OF9 HPL HHL HVO hbel hfar hfar2 nb nb' hglt y0 y1 y2 y3 y4 y5 f0 f1 f2 f3 f4 f5 zx e0 e1 e2 e3 e4 e5 HRQ hfo hfar3
          go_wp2_with fail
          go_roundw
          case rel => exact ⟨i + 1, G6, hs, by omega, by go_num, HNX.out, HZ.out⟩
          case measure => simp [intOf]; omega
        · rw [HKL.out] at hkc
          have dkc : ((k : Int) == (c : Int)) = false := by rw [beq_eq_false_iff_ne]; omega
          have dkc' : (k == c) = false := by rw [beq_eq_false_iff_ne]; omega
          have HKC := Lib.hid hkc
          clear hkc
          have HNX := Lib.hid hnx
          clear hnx
          have d0 : ((a : Int) == 0) = false := by rw [beq_eq_false_iff_ne]; omega
          have d0' : (a == 0) = false := by rw [beq_eq_false_iff_ne]; omega
          have da : decide ((a : Int) < 0) = false := by rw [decide_eq_false_iff_not]; omega
          have dca : decide ((c : Int) < (a : Int)) = false := by rw [decide_eq_false_iff_not]; omega
          have dca' : decide (c < a) = false := by rw [decide_eq_false_iff_not]; omega
          have dp : decide ((0 : Int) < (a : Int)) = true := by rw [decide_eq_true_iff]; omega
          have dp' : decide (0 < a) = true := by rw [decide_eq_true_iff]; omega
          have HIN0 : Hid (decide (a ∈ hs) = false) := Lib.hid (decide_eq_false hnin)
          clear h1a hac hnin
          have HAL : ∀ (A : Option Addr) (ka : Nat) (R : Option Addr) (ra : Nat) (S : Option Addr) (sa : Nat) (w : World), Hid (AtW w A n G) → Hid (StmsAt w R 3 (zerosS 3)) → Hid (StmsAt w S 3 (zerosS 3)) →
              Calls Try.prog 16 #[.agg #[.int .i64 3, .int .i64 (c : Int), .slice A n ka, .int .u64 (r : Int), .slice R 3 ra, .slice S 3 sa], .int .i64 (me : Int), .agg #[.int .i64 6, .int .i64 0, .int .i64 0, .int .u64 0], .int .i64 (40 + 20 * (c : Int))] w (AloneEndE w 3 (c : Int) A n r R S 3 G5 (zerosS 3) (zerosS 3) 0 false (a : Int)) := by
            have h := HOPS me 6 0 a 0 false (a : Int) G G5 _ (40 + 20 * c) hme hops (Nat.le_refl _) (by have := HCK.out; omega) (by decide) rfl rfl rfl
            rwa [show ((40 + 20 * c : Nat) : Int) = 40 + 20 * (c : Int) by omega] at h
          have HUN : ∀ (A : Option Addr) (ka : Nat) (R : Option Addr) (ra : Nat) (S : Option Addr) (sa : Nat) (w : World), Hid (AtW w A n G5) → Hid (StmsAt w R 3 (zerosS 3)) → Hid (StmsAt w S 3 (zerosS 3)) →
              Calls Try.prog 16 #[.agg #[.int .i64 3, .int .i64 (c : Int), .slice A n ka, .int .u64 (r : Int), .slice R 3 ra, .slice S 3 sa], .int .i64 (me : Int), .agg #[.int .i64 4, .int .i64 0, .int .i64 0, .int .u64 0], .int .i64 9] w (AloneEndE w 3 (c : Int) A n r R S 3 G6 (zerosS 3) (zerosS 3) 0 false 0) := HOPS me 4 0 0 0 false 0 G5 G6 9 9 hme hops2 (Nat.le_refl _) (by decide) (by decide) rfl rfl rfl
          obtain ⟨A1, ka1, R1, ra1, S1, sa1, hW, o0, o1, o2, _⟩ := HWD.out
          have W1 := Lib.hid hW
          have O1 := Lib.hid (And.intro o0 (And.intro o1 o2))
          obtain ⟨c0, c1, c2, c3, c4, c5⟩ := hW.cells
          have HGlt := Lib.hid hW.1.1
          clear hW o0 o1 o2
          clear hops hops2 HWD HOPS HALL HRET
          go_wp2_with fail
          (with_reducible refine (HAL A1 ka1 R1 ra1 S1 sa1 _ W1.out.gA W1.out.g0 W1.out.g1).mono ?_)
          clear HAL c0 c1 c2 c3 c4 c5
          rintro e w3 ⟨A3, ka3, R3, ra3, S3, sa3, rfl, ha, hs0, hs1, hb, hP⟩
          go_upto_region 13 with fail
          have hbx : Below w3.heap.size w3 ((w3.alloc (.cells #[.int .i64 3, .int .i64 (c : Int), .slice A3 n ka3, .int .u64 (r : Int), .slice R3 3 ra3, .slice S3 3 sa3] 51)).alloc (.cells #[.int .i64 0, .bool false, .int .i64 (a : Int), .int .u64 0, .slice none 0 0] 37)) := below_pair _ _ _
          have W3 := Lib.hid (WdAt.made (t := 3) (c := (c : Int)) (k := ka3) (r := r) (ra := ra3) (sa := sa3) w3 (.cells #[.int .i64 0, .bool false, .int .i64 (a : Int), .int .u64 0, .slice none 0 0] 37) 51 ha hs0 hs1)
          have O3 := Lib.hid (VarAt.made1 w3 (.cells #[.int .i64 3, .int .i64 (c : Int), .slice A3 n ka3, .int .u64 (r : Int), .slice R3 3 ra3, .slice S3 3 sa3] 51) #[.int .i64 0, .bool false, .int .i64 (a : Int), .int .u64 0, .slice none 0 0] 37)
          have hbn := hb.trans (hbx.mono hb.size)
          have HS3 := Lib.hid (And.intro hs0 hs1)
          have HX3 := Lib.hid hbx
          have HB3 := Lib.hid hb
          have HP3 := Lib.hid hP
          generalize (w3.alloc (.cells #[.int .i64 3, .int .i64 (c : Int), .slice A3 n ka3, .int .u64 (r : Int), .slice R3 3 ra3, .slice S3 3 sa3] 51)).alloc (.cells #[.int .i64 0, .bool false, .int .i64 (a : Int), .int .u64 0, .slice none 0 0] 37) = x3 at hbx hbn W3 O3 HX3 ⊢
          have HRn := Lib.hid (HR.out.later hbn); clear HR; have HR := HRn; clear HRn
          have BBn := Lib.hid (BB.out.trans (hbn.mono BB.out.size)); clear BB; have BB := BBn; clear BBn
          clear ha hs0 hs1 hb hP hbx hbn
          have HRP : Hid (RunP3 w b0 (b0 + 1) 3 (c : Int) n r 3 (.slice none 0 0) (.slice vA k vcap) [] hs G w3.heap.size (w3.heap.size + 1) [.int .i64 0, .bool false, .int .i64 (a : Int), .int .u64 0, .slice none 0 0] G5 x3) := Lib.hid (by
            obtain ⟨q0, q1, q2⟩ := HP3.out (Nt2 b0 (.slice none 0 0) (.slice vA k vcap)) ⟨fun b hb => HOLD.out b hb, O1.out.1, O1.out.2.1, O1.out.2.2⟩
            have hw3 := HB3.out.size
            have hsz := HSZR.out
            exact ⟨HR.out, ⟨A3, ka3, R3, ra3, S3, sa3, W3.out, q0, q1.later HS3.out.1 HX3.out, q2.later HS3.out.2 HX3.out, fun P h => h.elim⟩, O3.out, ⟨by omega, by omega⟩, fun k hk => by
              rcases hk with hk | hk
              · cases hk
              · have := HLH.out k hk; omega⟩)
          have HIN : Calls Try.prog 17 #[.slice vA k vcap, .int .i64 (a : Int)] x3 fun e w' => e = .returned (.bool false) ∧ x3 = w' := by
            have h := in_at vA k vcap hs (b0 + 1) a x3 (Lib.hid HRP.out.u.held) (by rw [HKL.out]; have := HCK.out; have := HKC.out; omega)
            rw [HIN0.out] at h
            exact h
          have HOLD3 := Lib.hid HRP.out.u.old
          have HSZ3 := Lib.hid HRP.out.u.size
          have HLX3 := Lib.hid (fun k hk => (HRP.out.u.held.lt k hk).2)
          obtain ⟨_, ⟨p1, p2, p3, p4, p5⟩, _⟩ := HRP.out.out.five
          clear W3 O3 HS3 HX3 HB3 HP3 HR W1 O1 HGlt HOLD HIN0
          go_wp2_with fail
          (with_reducible refine HIN.mono ?_)
          clear HIN
          rintro e w9 ⟨rfl, rfl⟩
          obtain ⟨A5, ka5, R5, ra5, S5, sa5, hW5, o0, o1, o2, _⟩ := HRP.out.next
          have W5 := Lib.hid hW5
          have O5n := Lib.hid (And.intro o0 (And.intro o1 o2))
          obtain ⟨c0, c1, c2, c3, c4, c5⟩ := hW5.cells
          have hfar3 := HRP.out.far.2
          clear hW5 o0 o1 o2
          go_wp2_with fail
          (with_reducible refine (HUN A5 ka5 R5 ra5 S5 sa5 _ W5.out.gA W5.out.g0 W5.out.g1).mono ?_)
          clear HUN c0 c1 c2 c3 c4 c5 p1 p2 p3 p4 p5
          rintro e w4 ⟨A4, ka4, R4, ra4, S4, sa4, rfl, ha, hs0, hs1, hb, hP⟩
          go_upto_region 16 with fail
          have hbx : Below w4.heap.size w4 ((w4.alloc (.cells #[.int .i64 3, .int .i64 (c : Int), .slice A4 n ka4, .int .u64 (r : Int), .slice R4 3 ra4, .slice S4 3 sa4] 51)).alloc (.cells #[.int .i64 0, .bool false, .int .i64 0, .int .u64 0, .slice none 0 0] 37)) := below_pair _ _ _
          have W4 := Lib.hid (WdAt.made (t := 3) (c := (c : Int)) (k := ka4) (r := r) (ra := ra4) (sa := sa4) w4 (.cells #[.int .i64 0, .bool false, .int .i64 0, .int .u64 0, .slice none 0 0] 37) 51 ha hs0 hs1)
          have O4 := Lib.hid (VarAt.made1 w4 (.cells #[.int .i64 3, .int .i64 (c : Int), .slice A4 n ka4, .int .u64 (r : Int), .slice R4 3 ra4, .slice S4 3 sa4] 51) #[.int .i64 0, .bool false, .int .i64 0, .int .u64 0, .slice none 0 0] 37)
          have hbn := hb.trans (hbx.mono hb.size)
          have HS4 := Lib.hid (And.intro hs0 hs1)
          have HX4 := Lib.hid hbx
          have HB4 := Lib.hid hb
          have HP4 := Lib.hid hP
          generalize (w4.alloc (.cells #[.int .i64 3, .int .i64 (c : Int), .slice A4 n ka4, .int .u64 (r : Int), .slice R4 3 ra4, .slice S4 3 sa4] 51)).alloc (.cells #[.int .i64 0, .bool false, .int .i64 0, .int .u64 0, .slice none 0 0] 37) = x4 at hbx hbn W4 O4 HX4 ⊢
          have HRPn := Lib.hid (HRP.out.later hbn); clear HRP; have HRP := HRPn; clear HRPn
          have BBn := Lib.hid (BB.out.trans (hbn.mono BB.out.size)); clear BB; have BB := BBn; clear BBn
          clear ha hs0 hs1 hb hP hbx hbn
          have HRQ : Hid (RunP3 w b0 (b0 + 1) 3 (c : Int) n r 3 (.slice none 0 0) (.slice vA k vcap) [] hs G w4.heap.size (w3.heap.size + 1) [.int .i64 0, .bool false, .int .i64 (a : Int), .int .u64 0, .slice none 0 0] G6 x4) := Lib.hid (by
            obtain ⟨q0, q1, q2⟩ := HP4.out (Nt2 b0 (.slice none 0 0) (.slice vA k vcap)) ⟨fun b hb => HOLD3.out b hb, O5n.out.1, O5n.out.2.1, O5n.out.2.2⟩
            have hw3 := HB4.out.size
            have hsz := HSZ3.out
            exact ⟨HRP.out.u, ⟨A4, ka4, R4, ra4, S4, sa4, W4.out, q0, q1.later HS4.out.1 HX4.out, q2.later HS4.out.2 HX4.out, fun P h => h.elim⟩, HRP.out.out, ⟨by have := HSZ3.out; omega, by omega⟩, fun k hk => by
              rcases hk with hk | hk
              · cases hk
              · exact ⟨by have := (HRP.out.u.held.lt k hk).2; have := HLX3.out k hk; omega, (HRP.out.off k (.inr hk)).2⟩⟩)
          clear W4 O4 HS4 HX4 HB4 HP4 HRP W5 O5n HOLD3 HSZ3 BB
          obtain ⟨A8, ka8, R8, ra8, S8, sa8, hW8, _⟩ := HRQ.out.u.run
          obtain ⟨zx, ⟨y0, y1, y2, y3, y4, y5⟩, f0, f1, f2, f3, f4, f5⟩ := hW8.1.six
          obtain ⟨A9, ka9, R9, ra9, S9, sa9, hW9, o0, o1, o2, _⟩ := HRQ.out.next
          obtain ⟨_, ⟨e0, e1, e2, e3, e4, e5⟩, _⟩ := hW9.1.six
          have W9 := Lib.hid hW9
          have OF9 := Lib.hid (And.intro o0 (And.intro o1 o2))
          have HPL := Lib.hid HRQ.out.u.pile
          have HHL := Lib.hid HRQ.out.u.held
          have HVO := Lib.hid HRQ.out.out
          have hbel := HRQ.out.u.below
          have hfar := HRQ.out.far.1
          have hfar2 := HRQ.out.far.2
          have nb : ¬ (w4.heap.size = b0) := by omega
          have nb' : ¬ (b0 = w4.heap.size) := fun e => nb e.symm
          have hglt := HRQ.out.u.lt
          clear hW8 hW9 o0 o1 o2
          have hfo : ¬ (w3.heap.size + 1 = b0) := by omega
          go_upto_region 19 with fail
          refine gen_w (P := fun W => Code.wp _ _ _ _ W) (fun z => RunU3 w b0 (b0 + 1) 3 (c : Int) n r 3 (.slice none 0 0) (.slice vA k vcap) [] hs G6 z ∧ VarAt z (w3.heap.size + 1) [.int .i64 0, .bool false, .int .i64 (a : Int), .int .u64 0, .slice none 0 0]) ⟨(HRQ.out.u.put (by repeat (first | with_reducible assumption | with_reducible refine Below.drew ?_ | with_reducible refine below_al ?_ | (with_reducible refine below_set1 (by omega) _ ?_))) (by simp) (by repeat (first | with_reducible exact HPL.out | (with_reducible refine OwnI.apart ?_ _ _ _ (by omega)))) (by repeat (first | with_reducible exact HHL.out | (with_reducible refine OwnI.apart ?_ _ _ _ (by omega)))) ⟨A9, ka9, R9, ra9, S9, sa9, ⟨VarAt.of6 (by simp; omega) (by go_simp) (by go_simp) (by go_simp) (by go_simp) (by go_simp) (by go_simp) (by go_simp) (by go_simp) (by go_simp) (by go_simp) (by go_simp) (by go_simp), W9.out.2.1.keep (Q := Nt2 b0 (.slice none 0 0) (.slice vA k vcap)) (by repeat (first | with_reducible exact Keep.refl _ _ | with_reducible refine Keep.drew ?_ | with_reducible refine Keep.alloc ?_ _ | (with_reducible refine Keep.set ?_ _ _ _ (by unfold Nt2; omega)))) OF9.out.1, W9.out.2.2.1.keep (Q := Nt2 b0 (.slice none 0 0) (.slice vA k vcap)) (by repeat (first | with_reducible exact Keep.refl _ _ | with_reducible refine Keep.drew ?_ | with_reducible refine Keep.alloc ?_ _ | (with_reducible refine Keep.set ?_ _ _ _ (by unfold Nt2; omega)))) OF9.out.2.1, W9.out.2.2.2.keep (Q := Nt2 b0 (.slice none 0 0) (.slice vA k vcap)) (by repeat (first | with_reducible exact Keep.refl _ _ | with_reducible refine Keep.drew ?_ | with_reducible refine Keep.alloc ?_ _ | (with_reducible refine Keep.set ?_ _ _ _ (by unfold Nt2; omega)))) OF9.out.2.2⟩, OF9.out.1, OF9.out.2.1.keep W9.out.2.2.1 (Q := Nt2 b0 (.slice none 0 0) (.slice vA k vcap)) (by repeat (first | with_reducible exact Keep.refl _ _ | with_reducible refine Keep.drew ?_ | with_reducible refine Keep.alloc ?_ _ | (with_reducible refine Keep.set ?_ _ _ _ (by unfold Nt2; omega)))) OF9.out.2.1, OF9.out.2.2.keep W9.out.2.2.2 (Q := Nt2 b0 (.slice none 0 0) (.slice vA k vcap)) (by repeat (first | with_reducible exact Keep.refl _ _ | with_reducible refine Keep.drew ?_ | with_reducible refine Keep.alloc ?_ _ | (with_reducible refine Keep.set ?_ _ _ _ (by unfold Nt2; omega)))) OF9.out.2.2, fun P h => h.elim⟩), (by repeat (first | with_reducible exact HVO.out | (with_reducible refine VarAt.apart ?_ _ _ (by omega))))⟩ ?_
          rintro z ⟨hz, hvz⟩
          have HZ := Lib.hid hz
          obtain ⟨_, ⟨p1, p2, p3, p4, p5⟩, _⟩ := hvz.five
          clear hz hvz W9 OF9 HPL HHL HVO hbel hfar hfar2 nb nb' hglt y0 y1 y2 y3 y4 y5 f0 f1 f2 f3 f4 f5 zx e0 e1 e2 e3 e4 e5 HRQ hfo hfar3
          have HM9 : Hid (hs.length ≤ 900000) := Lib.hid (by rw [HKL.out]; have := HCK.out; have := HKC.out; omega)
          have HOA : Hid (∀ o, OwnI (z.alloc o) (b0 + 1) (.slice vA k vcap) hs) := Lib.hid (fun o => (HZ.out.later (al_below z o)).held)
          have HZ1 : Hid (∀ o, b0 + 1 ≤ (z.alloc o).heap.size) := Lib.hid (fun o => (HZ.out.later (al_below z o)).size)
          have HNXT : Hid (∀ o v' w', OwnI w' (b0 + 1) v' (hs ++ [a]) → (z.alloc o).grownBy w' (Value.ownBlock (.slice vA k vcap)) → (v'.ownBlock = (Value.ownBlock (.slice vA k vcap)) ∨ v'.ownBlock = some (z.alloc o).heap.size) → RunU3 w b0 (b0 + 1) 3 (c : Int) n r 3 (.slice none 0 0) v' [] (hs ++ [a]) G6 w') := Lib.hid (fun o v' w' h1 h2 h3 => ((HZ.out.later (al_below z o)).swap.nextP h1 h2 h3).swap)
          clear HZ
          go_wp2_with (at_builtin; (refine wpList_appendI (by rfl) (.tmp 109) (.tmp 112) (by rfl) (b0 + 1) (.slice vA k vcap) hs (by rfl) (HOA.out _) z.heap.size 1 a (by rfl) (by go_simp) HM9.out (HZ1.out _) ?_); (intro v9 w9 hown9 hg9 hv9; have HZ := Lib.hid (HNXT.out _ _ _ hown9 hg9 hv9); clear hown9 hg9 hv9 HNXT HOA HZ1 HM9))
          go_roundw
          case rel => exact ⟨i + 1, G6, hs ++ [a], by omega, by go_num, HNX.out, HZ.out⟩
          case measure => simp [intOf]; omega
      · by_cases hk0 : k = 0
        · have dx : ((x : Int) % 2 == 0) = false := by rw [beq_eq_false_iff_ne]; omega
          have dk : ((k : Int) == 0) = true := by rw [beq_iff_eq]; omega
          have dk' : (k == 0) = true := by rw [beq_iff_eq]; omega
          clear hpop hk0
          obtain ⟨a, G5, G6, hops, hops2, hh⟩ := HALL i me G hs HEA.out (by have := HLN.out; omega) hme
          rcases hh with ⟨rfl, hkc, hnx⟩ | ⟨h1a, hac, hnin, hkc, hnx⟩
          · rw [HKL.out] at hkc
            have dkc : ((k : Int) == (c : Int)) = true := by rw [beq_iff_eq]; omega
            have dkc' : (k == c) = true := by rw [beq_iff_eq]; omega
            have HKC := Lib.hid hkc
            clear hkc
            have HNX := Lib.hid hnx
            clear hnx
            have HIN0 : Hid (decide (0 ∈ hs) = false) := Lib.hid (decide_eq_false fun hin => by have := HEA.out.mem 0 hin; omega)
            have dc0 : decide ((c : Int) < 0) = false := by rw [decide_eq_false_iff_not]; omega
            have HAL : ∀ (A : Option Addr) (ka : Nat) (R : Option Addr) (ra : Nat) (S : Option Addr) (sa : Nat) (w : World), Hid (AtW w A n G) → Hid (StmsAt w R 3 (zerosS 3)) → Hid (StmsAt w S 3 (zerosS 3)) →
                Calls Try.prog 16 #[.agg #[.int .i64 3, .int .i64 (c : Int), .slice A n ka, .int .u64 (r : Int), .slice R 3 ra, .slice S 3 sa], .int .i64 (me : Int), .agg #[.int .i64 6, .int .i64 0, .int .i64 0, .int .u64 0], .int .i64 (40 + 20 * (c : Int))] w (AloneEndE w 3 (c : Int) A n r R S 3 G5 (zerosS 3) (zerosS 3) 0 false 0) := by
              have h := HOPS me 6 0 0 0 false 0 G G5 _ (40 + 20 * c) hme hops (Nat.le_refl _) (by have := HCK.out; omega) (by decide) rfl rfl rfl
              rwa [show ((40 + 20 * c : Nat) : Int) = 40 + 20 * (c : Int) by omega] at h
            have HUN : ∀ (A : Option Addr) (ka : Nat) (R : Option Addr) (ra : Nat) (S : Option Addr) (sa : Nat) (w : World), Hid (AtW w A n G5) → Hid (StmsAt w R 3 (zerosS 3)) → Hid (StmsAt w S 3 (zerosS 3)) →
                Calls Try.prog 16 #[.agg #[.int .i64 3, .int .i64 (c : Int), .slice A n ka, .int .u64 (r : Int), .slice R 3 ra, .slice S 3 sa], .int .i64 (me : Int), .agg #[.int .i64 4, .int .i64 0, .int .i64 0, .int .u64 0], .int .i64 9] w (AloneEndE w 3 (c : Int) A n r R S 3 G6 (zerosS 3) (zerosS 3) 0 false 0) := HOPS me 4 0 0 0 false 0 G5 G6 9 9 hme hops2 (Nat.le_refl _) (by decide) (by decide) rfl rfl rfl
            obtain ⟨A1, ka1, R1, ra1, S1, sa1, hW, o0, o1, o2, _⟩ := HWD.out
            have W1 := Lib.hid hW
            have O1 := Lib.hid (And.intro o0 (And.intro o1 o2))
            obtain ⟨c0, c1, c2, c3, c4, c5⟩ := hW.cells
            have HGlt := Lib.hid hW.1.1
            clear hW o0 o1 o2
            clear hops hops2 HWD HOPS HALL HRET
            go_wp2_with fail
            (with_reducible refine (HAL A1 ka1 R1 ra1 S1 sa1 _ W1.out.gA W1.out.g0 W1.out.g1).mono ?_)
            clear HAL c0 c1 c2 c3 c4 c5
            rintro e w3 ⟨A3, ka3, R3, ra3, S3, sa3, rfl, ha, hs0, hs1, hb, hP⟩
            go_upto_region 13 with fail
            have hbx : Below w3.heap.size w3 ((w3.alloc (.cells #[.int .i64 3, .int .i64 (c : Int), .slice A3 n ka3, .int .u64 (r : Int), .slice R3 3 ra3, .slice S3 3 sa3] 51)).alloc (.cells #[.int .i64 0, .bool false, .int .i64 0, .int .u64 0, .slice none 0 0] 37)) := below_pair _ _ _
            have W3 := Lib.hid (WdAt.made (t := 3) (c := (c : Int)) (k := ka3) (r := r) (ra := ra3) (sa := sa3) w3 (.cells #[.int .i64 0, .bool false, .int .i64 0, .int .u64 0, .slice none 0 0] 37) 51 ha hs0 hs1)
            have O3 := Lib.hid (VarAt.made1 w3 (.cells #[.int .i64 3, .int .i64 (c : Int), .slice A3 n ka3, .int .u64 (r : Int), .slice R3 3 ra3, .slice S3 3 sa3] 51) #[.int .i64 0, .bool false, .int .i64 0, .int .u64 0, .slice none 0 0] 37)
            have hbn := hb.trans (hbx.mono hb.size)
            have HS3 := Lib.hid (And.intro hs0 hs1)
            have HX3 := Lib.hid hbx
            have HB3 := Lib.hid hb
            have HP3 := Lib.hid hP
            generalize (w3.alloc (.cells #[.int .i64 3, .int .i64 (c : Int), .slice A3 n ka3, .int .u64 (r : Int), .slice R3 3 ra3, .slice S3 3 sa3] 51)).alloc (.cells #[.int .i64 0, .bool false, .int .i64 0, .int .u64 0, .slice none 0 0] 37) = x3 at hbx hbn W3 O3 HX3 ⊢
            have HRn := Lib.hid (HR.out.later hbn); clear HR; have HR := HRn; clear HRn
            have BBn := Lib.hid (BB.out.trans (hbn.mono BB.out.size)); clear BB; have BB := BBn; clear BBn
            clear ha hs0 hs1 hb hP hbx hbn
            have HRP : Hid (RunP3 w b0 (b0 + 1) 3 (c : Int) n r 3 (.slice none 0 0) (.slice vA k vcap) [] hs G w3.heap.size (w3.heap.size + 1) [.int .i64 0, .bool false, .int .i64 0, .int .u64 0, .slice none 0 0] G5 x3) := Lib.hid (by
              obtain ⟨q0, q1, q2⟩ := HP3.out (Nt2 b0 (.slice none 0 0) (.slice vA k vcap)) ⟨fun b hb => HOLD.out b hb, O1.out.1, O1.out.2.1, O1.out.2.2⟩
              have hw3 := HB3.out.size
              have hsz := HSZR.out
              exact ⟨HR.out, ⟨A3, ka3, R3, ra3, S3, sa3, W3.out, q0, q1.later HS3.out.1 HX3.out, q2.later HS3.out.2 HX3.out, fun P h => h.elim⟩, O3.out, ⟨by omega, by omega⟩, fun k hk => by
                rcases hk with hk | hk
                · cases hk
                · have := HLH.out k hk; omega⟩)
            have HIN : Calls Try.prog 17 #[.slice vA k vcap, .int .i64 0] x3 fun e w' => e = .returned (.bool false) ∧ x3 = w' := by
              have h := in_at vA k vcap hs (b0 + 1) 0 x3 (Lib.hid HRP.out.u.held) (by rw [HKL.out]; have := HCK.out; have := HKC.out; omega)
              rw [HIN0.out] at h
              exact h
            have HOLD3 := Lib.hid HRP.out.u.old
            have HSZ3 := Lib.hid HRP.out.u.size
            have HLX3 := Lib.hid (fun k hk => (HRP.out.u.held.lt k hk).2)
            obtain ⟨_, ⟨p1, p2, p3, p4, p5⟩, _⟩ := HRP.out.out.five
            clear W3 O3 HS3 HX3 HB3 HP3 HR W1 O1 HGlt HOLD HIN0
            go_wp2_with fail
            (with_reducible refine HIN.mono ?_)
            clear HIN
            rintro e w9 ⟨rfl, rfl⟩
            obtain ⟨A5, ka5, R5, ra5, S5, sa5, hW5, o0, o1, o2, _⟩ := HRP.out.next
            have W5 := Lib.hid hW5
            have O5n := Lib.hid (And.intro o0 (And.intro o1 o2))
            obtain ⟨c0, c1, c2, c3, c4, c5⟩ := hW5.cells
            have hfar3 := HRP.out.far.2
            clear hW5 o0 o1 o2
            go_wp2_with fail
            (with_reducible refine (HUN A5 ka5 R5 ra5 S5 sa5 _ W5.out.gA W5.out.g0 W5.out.g1).mono ?_)
            clear HUN c0 c1 c2 c3 c4 c5 p1 p2 p3 p4 p5
            rintro e w4 ⟨A4, ka4, R4, ra4, S4, sa4, rfl, ha, hs0, hs1, hb, hP⟩
            go_upto_region 16 with fail
            have hbx : Below w4.heap.size w4 ((w4.alloc (.cells #[.int .i64 3, .int .i64 (c : Int), .slice A4 n ka4, .int .u64 (r : Int), .slice R4 3 ra4, .slice S4 3 sa4] 51)).alloc (.cells #[.int .i64 0, .bool false, .int .i64 0, .int .u64 0, .slice none 0 0] 37)) := below_pair _ _ _
            have W4 := Lib.hid (WdAt.made (t := 3) (c := (c : Int)) (k := ka4) (r := r) (ra := ra4) (sa := sa4) w4 (.cells #[.int .i64 0, .bool false, .int .i64 0, .int .u64 0, .slice none 0 0] 37) 51 ha hs0 hs1)
            have O4 := Lib.hid (VarAt.made1 w4 (.cells #[.int .i64 3, .int .i64 (c : Int), .slice A4 n ka4, .int .u64 (r : Int), .slice R4 3 ra4, .slice S4 3 sa4] 51) #[.int .i64 0, .bool false, .int .i64 0, .int .u64 0, .slice none 0 0] 37)
            have hbn := hb.trans (hbx.mono hb.size)
            have HS4 := Lib.hid (And.intro hs0 hs1)
            have HX4 := Lib.hid hbx
            have HB4 := Lib.hid hb
            have HP4 := Lib.hid hP
            generalize (w4.alloc (.cells #[.int .i64 3, .int .i64 (c : Int), .slice A4 n ka4, .int .u64 (r : Int), .slice R4 3 ra4, .slice S4 3 sa4] 51)).alloc (.cells #[.int .i64 0, .bool false, .int .i64 0, .int .u64 0, .slice none 0 0] 37) = x4 at hbx hbn W4 O4 HX4 ⊢
            have HRPn := Lib.hid (HRP.out.later hbn); clear HRP; have HRP := HRPn; clear HRPn
            have BBn := Lib.hid (BB.out.trans (hbn.mono BB.out.size)); clear BB; have BB := BBn; clear BBn
            clear ha hs0 hs1 hb hP hbx hbn
            have HRQ : Hid (RunP3 w b0 (b0 + 1) 3 (c : Int) n r 3 (.slice none 0 0) (.slice vA k vcap) [] hs G w4.heap.size (w3.heap.size + 1) [.int .i64 0, .bool false, .int .i64 0, .int .u64 0, .slice none 0 0] G6 x4) := Lib.hid (by
              obtain ⟨q0, q1, q2⟩ := HP4.out (Nt2 b0 (.slice none 0 0) (.slice vA k vcap)) ⟨fun b hb => HOLD3.out b hb, O5n.out.1, O5n.out.2.1, O5n.out.2.2⟩
              have hw3 := HB4.out.size
              have hsz := HSZ3.out
              exact ⟨HRP.out.u, ⟨A4, ka4, R4, ra4, S4, sa4, W4.out, q0, q1.later HS4.out.1 HX4.out, q2.later HS4.out.2 HX4.out, fun P h => h.elim⟩, HRP.out.out, ⟨by have := HSZ3.out; omega, by omega⟩, fun k hk => by
                rcases hk with hk | hk
                · cases hk
                · exact ⟨by have := (HRP.out.u.held.lt k hk).2; have := HLX3.out k hk; omega, (HRP.out.off k (.inr hk)).2⟩⟩)
            clear W4 O4 HS4 HX4 HB4 HP4 HRP W5 O5n HOLD3 HSZ3 BB
            obtain ⟨A8, ka8, R8, ra8, S8, sa8, hW8, _⟩ := HRQ.out.u.run
            obtain ⟨zx, ⟨y0, y1, y2, y3, y4, y5⟩, f0, f1, f2, f3, f4, f5⟩ := hW8.1.six
            obtain ⟨A9, ka9, R9, ra9, S9, sa9, hW9, o0, o1, o2, _⟩ := HRQ.out.next
            obtain ⟨_, ⟨e0, e1, e2, e3, e4, e5⟩, _⟩ := hW9.1.six
            have W9 := Lib.hid hW9
            have OF9 := Lib.hid (And.intro o0 (And.intro o1 o2))
            have HPL := Lib.hid HRQ.out.u.pile
            have HHL := Lib.hid HRQ.out.u.held
            have HVO := Lib.hid HRQ.out.out
            have hbel := HRQ.out.u.below
            have hfar := HRQ.out.far.1
            have hfar2 := HRQ.out.far.2
            have nb : ¬ (w4.heap.size = b0) := by omega
            have nb' : ¬ (b0 = w4.heap.size) := fun e => nb e.symm
            have hglt := HRQ.out.u.lt
            clear hW8 hW9 o0 o1 o2
            have hfo : ¬ (w3.heap.size + 1 = b0) := by omega
            go_upto_region 19 with fail
            refine gen_w (P := fun W => Code.wp _ _ _ _ W) (fun z => RunU3 w b0 (b0 + 1) 3 (c : Int) n r 3 (.slice none 0 0) (.slice vA k vcap) [] hs G6 z ∧ VarAt z (w3.heap.size + 1) [.int .i64 0, .bool false, .int .i64 0, .int .u64 0, .slice none 0 0]) ⟨(HRQ.out.u.put (by repeat (first | with_reducible assumption | with_reducible refine Below.drew ?_ | with_reducible refine below_al ?_ | (with_reducible refine below_set1 (by omega) _ ?_))) (by simp) (by repeat (first | with_reducible exact HPL.out | (with_reducible refine OwnI.apart ?_ _ _ _ (by omega)))) (by repeat (first | with_reducible exact HHL.out | (with_reducible refine OwnI.apart ?_ _ _ _ (by omega)))) ⟨A9, ka9, R9, ra9, S9, sa9, ⟨VarAt.of6 (by simp; omega) (by go_simp) (by go_simp) (by go_simp) (by go_simp) (by go_simp) (by go_simp) (by go_simp) (by go_simp) (by go_simp) (by go_simp) (by go_simp) (by go_simp), W9.out.2.1.keep (Q := Nt2 b0 (.slice none 0 0) (.slice vA k vcap)) (by repeat (first | with_reducible exact Keep.refl _ _ | with_reducible refine Keep.drew ?_ | with_reducible refine Keep.alloc ?_ _ | (with_reducible refine Keep.set ?_ _ _ _ (by unfold Nt2; omega)))) OF9.out.1, W9.out.2.2.1.keep (Q := Nt2 b0 (.slice none 0 0) (.slice vA k vcap)) (by repeat (first | with_reducible exact Keep.refl _ _ | with_reducible refine Keep.drew ?_ | with_reducible refine Keep.alloc ?_ _ | (with_reducible refine Keep.set ?_ _ _ _ (by unfold Nt2; omega)))) OF9.out.2.1, W9.out.2.2.2.keep (Q := Nt2 b0 (.slice none 0 0) (.slice vA k vcap)) (by repeat (first | with_reducible exact Keep.refl _ _ | with_reducible refine Keep.drew ?_ | with_reducible refine Keep.alloc ?_ _ | (with_reducible refine Keep.set ?_ _ _ _ (by unfold Nt2; omega)))) OF9.out.2.2⟩, OF9.out.1, OF9.out.2.1.keep W9.out.2.2.1 (Q := Nt2 b0 (.slice none 0 0) (.slice vA k vcap)) (by repeat (first | with_reducible exact Keep.refl _ _ | with_reducible refine Keep.drew ?_ | with_reducible refine Keep.alloc ?_ _ | (with_reducible refine Keep.set ?_ _ _ _ (by unfold Nt2; omega)))) OF9.out.2.1, OF9.out.2.2.keep W9.out.2.2.2 (Q := Nt2 b0 (.slice none 0 0) (.slice vA k vcap)) (by repeat (first | with_reducible exact Keep.refl _ _ | with_reducible refine Keep.drew ?_ | with_reducible refine Keep.alloc ?_ _ | (with_reducible refine Keep.set ?_ _ _ _ (by unfold Nt2; omega)))) OF9.out.2.2, fun P h => h.elim⟩), (by repeat (first | with_reducible exact HVO.out | (with_reducible refine VarAt.apart ?_ _ _ (by omega))))⟩ ?_
            rintro z ⟨hz, hvz⟩
            have HZ := Lib.hid hz
            obtain ⟨_, ⟨p1, p2, p3, p4, p5⟩, _⟩ := hvz.five
            clear hz hvz W9 OF9 HPL HHL HVO hbel hfar hfar2 nb nb' hglt y0 y1 y2 y3 y4 y5 f0 f1 f2 f3 f4 f5 zx e0 e1 e2 e3 e4 e5 HRQ hfo hfar3
            go_wp2_with fail
            go_roundw
            case rel => exact ⟨i + 1, G6, hs, by omega, by go_num, HNX.out, HZ.out⟩
            case measure => simp [intOf]; omega
          · rw [HKL.out] at hkc
            have dkc : ((k : Int) == (c : Int)) = false := by rw [beq_eq_false_iff_ne]; omega
            have dkc' : (k == c) = false := by rw [beq_eq_false_iff_ne]; omega
            have HKC := Lib.hid hkc
            clear hkc
            have HNX := Lib.hid hnx
            clear hnx
            have d0 : ((a : Int) == 0) = false := by rw [beq_eq_false_iff_ne]; omega
            have d0' : (a == 0) = false := by rw [beq_eq_false_iff_ne]; omega
            have da : decide ((a : Int) < 0) = false := by rw [decide_eq_false_iff_not]; omega
            have dca : decide ((c : Int) < (a : Int)) = false := by rw [decide_eq_false_iff_not]; omega
            have dca' : decide (c < a) = false := by rw [decide_eq_false_iff_not]; omega
            have dp : decide ((0 : Int) < (a : Int)) = true := by rw [decide_eq_true_iff]; omega
            have dp' : decide (0 < a) = true := by rw [decide_eq_true_iff]; omega
            have HIN0 : Hid (decide (a ∈ hs) = false) := Lib.hid (decide_eq_false hnin)
            clear h1a hac hnin
            have HAL : ∀ (A : Option Addr) (ka : Nat) (R : Option Addr) (ra : Nat) (S : Option Addr) (sa : Nat) (w : World), Hid (AtW w A n G) → Hid (StmsAt w R 3 (zerosS 3)) → Hid (StmsAt w S 3 (zerosS 3)) →
                Calls Try.prog 16 #[.agg #[.int .i64 3, .int .i64 (c : Int), .slice A n ka, .int .u64 (r : Int), .slice R 3 ra, .slice S 3 sa], .int .i64 (me : Int), .agg #[.int .i64 6, .int .i64 0, .int .i64 0, .int .u64 0], .int .i64 (40 + 20 * (c : Int))] w (AloneEndE w 3 (c : Int) A n r R S 3 G5 (zerosS 3) (zerosS 3) 0 false (a : Int)) := by
              have h := HOPS me 6 0 a 0 false (a : Int) G G5 _ (40 + 20 * c) hme hops (Nat.le_refl _) (by have := HCK.out; omega) (by decide) rfl rfl rfl
              rwa [show ((40 + 20 * c : Nat) : Int) = 40 + 20 * (c : Int) by omega] at h
            have HUN : ∀ (A : Option Addr) (ka : Nat) (R : Option Addr) (ra : Nat) (S : Option Addr) (sa : Nat) (w : World), Hid (AtW w A n G5) → Hid (StmsAt w R 3 (zerosS 3)) → Hid (StmsAt w S 3 (zerosS 3)) →
                Calls Try.prog 16 #[.agg #[.int .i64 3, .int .i64 (c : Int), .slice A n ka, .int .u64 (r : Int), .slice R 3 ra, .slice S 3 sa], .int .i64 (me : Int), .agg #[.int .i64 4, .int .i64 0, .int .i64 0, .int .u64 0], .int .i64 9] w (AloneEndE w 3 (c : Int) A n r R S 3 G6 (zerosS 3) (zerosS 3) 0 false 0) := HOPS me 4 0 0 0 false 0 G5 G6 9 9 hme hops2 (Nat.le_refl _) (by decide) (by decide) rfl rfl rfl
            obtain ⟨A1, ka1, R1, ra1, S1, sa1, hW, o0, o1, o2, _⟩ := HWD.out
            have W1 := Lib.hid hW
            have O1 := Lib.hid (And.intro o0 (And.intro o1 o2))
            obtain ⟨c0, c1, c2, c3, c4, c5⟩ := hW.cells
            have HGlt := Lib.hid hW.1.1
            clear hW o0 o1 o2
            clear hops hops2 HWD HOPS HALL HRET
            go_wp2_with fail
            (with_reducible refine (HAL A1 ka1 R1 ra1 S1 sa1 _ W1.out.gA W1.out.g0 W1.out.g1).mono ?_)
            clear HAL c0 c1 c2 c3 c4 c5
            rintro e w3 ⟨A3, ka3, R3, ra3, S3, sa3, rfl, ha, hs0, hs1, hb, hP⟩
            go_upto_region 13 with fail
            have hbx : Below w3.heap.size w3 ((w3.alloc (.cells #[.int .i64 3, .int .i64 (c : Int), .slice A3 n ka3, .int .u64 (r : Int), .slice R3 3 ra3, .slice S3 3 sa3] 51)).alloc (.cells #[.int .i64 0, .bool false, .int .i64 (a : Int), .int .u64 0, .slice none 0 0] 37)) := below_pair _ _ _
            have W3 := Lib.hid (WdAt.made (t := 3) (c := (c : Int)) (k := ka3) (r := r) (ra := ra3) (sa := sa3) w3 (.cells #[.int .i64 0, .bool false, .int .i64 (a : Int), .int .u64 0, .slice none 0 0] 37) 51 ha hs0 hs1)
            have O3 := Lib.hid (VarAt.made1 w3 (.cells #[.int .i64 3, .int .i64 (c : Int), .slice A3 n ka3, .int .u64 (r : Int), .slice R3 3 ra3, .slice S3 3 sa3] 51) #[.int .i64 0, .bool false, .int .i64 (a : Int), .int .u64 0, .slice none 0 0] 37)
            have hbn := hb.trans (hbx.mono hb.size)
            have HS3 := Lib.hid (And.intro hs0 hs1)
            have HX3 := Lib.hid hbx
            have HB3 := Lib.hid hb
            have HP3 := Lib.hid hP
            generalize (w3.alloc (.cells #[.int .i64 3, .int .i64 (c : Int), .slice A3 n ka3, .int .u64 (r : Int), .slice R3 3 ra3, .slice S3 3 sa3] 51)).alloc (.cells #[.int .i64 0, .bool false, .int .i64 (a : Int), .int .u64 0, .slice none 0 0] 37) = x3 at hbx hbn W3 O3 HX3 ⊢
            have HRn := Lib.hid (HR.out.later hbn); clear HR; have HR := HRn; clear HRn
            have BBn := Lib.hid (BB.out.trans (hbn.mono BB.out.size)); clear BB; have BB := BBn; clear BBn
            clear ha hs0 hs1 hb hP hbx hbn
            have HRP : Hid (RunP3 w b0 (b0 + 1) 3 (c : Int) n r 3 (.slice none 0 0) (.slice vA k vcap) [] hs G w3.heap.size (w3.heap.size + 1) [.int .i64 0, .bool false, .int .i64 (a : Int), .int .u64 0, .slice none 0 0] G5 x3) := Lib.hid (by
              obtain ⟨q0, q1, q2⟩ := HP3.out (Nt2 b0 (.slice none 0 0) (.slice vA k vcap)) ⟨fun b hb => HOLD.out b hb, O1.out.1, O1.out.2.1, O1.out.2.2⟩
              have hw3 := HB3.out.size
              have hsz := HSZR.out
              exact ⟨HR.out, ⟨A3, ka3, R3, ra3, S3, sa3, W3.out, q0, q1.later HS3.out.1 HX3.out, q2.later HS3.out.2 HX3.out, fun P h => h.elim⟩, O3.out, ⟨by omega, by omega⟩, fun k hk => by
                rcases hk with hk | hk
                · cases hk
                · have := HLH.out k hk; omega⟩)
            have HIN : Calls Try.prog 17 #[.slice vA k vcap, .int .i64 (a : Int)] x3 fun e w' => e = .returned (.bool false) ∧ x3 = w' := by
              have h := in_at vA k vcap hs (b0 + 1) a x3 (Lib.hid HRP.out.u.held) (by rw [HKL.out]; have := HCK.out; have := HKC.out; omega)
              rw [HIN0.out] at h
              exact h
            have HOLD3 := Lib.hid HRP.out.u.old
            have HSZ3 := Lib.hid HRP.out.u.size
            have HLX3 := Lib.hid (fun k hk => (HRP.out.u.held.lt k hk).2)
            obtain ⟨_, ⟨p1, p2, p3, p4, p5⟩, _⟩ := HRP.out.out.five
            clear W3 O3 HS3 HX3 HB3 HP3 HR W1 O1 HGlt HOLD HIN0
            go_wp2_with fail
            (with_reducible refine HIN.mono ?_)
            clear HIN
            rintro e w9 ⟨rfl, rfl⟩
            obtain ⟨A5, ka5, R5, ra5, S5, sa5, hW5, o0, o1, o2, _⟩ := HRP.out.next
            have W5 := Lib.hid hW5
            have O5n := Lib.hid (And.intro o0 (And.intro o1 o2))
            obtain ⟨c0, c1, c2, c3, c4, c5⟩ := hW5.cells
            have hfar3 := HRP.out.far.2
            clear hW5 o0 o1 o2
            go_wp2_with fail
            (with_reducible refine (HUN A5 ka5 R5 ra5 S5 sa5 _ W5.out.gA W5.out.g0 W5.out.g1).mono ?_)
            clear HUN c0 c1 c2 c3 c4 c5 p1 p2 p3 p4 p5
            rintro e w4 ⟨A4, ka4, R4, ra4, S4, sa4, rfl, ha, hs0, hs1, hb, hP⟩
            go_upto_region 16 with fail
            have hbx : Below w4.heap.size w4 ((w4.alloc (.cells #[.int .i64 3, .int .i64 (c : Int), .slice A4 n ka4, .int .u64 (r : Int), .slice R4 3 ra4, .slice S4 3 sa4] 51)).alloc (.cells #[.int .i64 0, .bool false, .int .i64 0, .int .u64 0, .slice none 0 0] 37)) := below_pair _ _ _
            have W4 := Lib.hid (WdAt.made (t := 3) (c := (c : Int)) (k := ka4) (r := r) (ra := ra4) (sa := sa4) w4 (.cells #[.int .i64 0, .bool false, .int .i64 0, .int .u64 0, .slice none 0 0] 37) 51 ha hs0 hs1)
            have O4 := Lib.hid (VarAt.made1 w4 (.cells #[.int .i64 3, .int .i64 (c : Int), .slice A4 n ka4, .int .u64 (r : Int), .slice R4 3 ra4, .slice S4 3 sa4] 51) #[.int .i64 0, .bool false, .int .i64 0, .int .u64 0, .slice none 0 0] 37)
            have hbn := hb.trans (hbx.mono hb.size)
            have HS4 := Lib.hid (And.intro hs0 hs1)
            have HX4 := Lib.hid hbx
            have HB4 := Lib.hid hb
            have HP4 := Lib.hid hP
            generalize (w4.alloc (.cells #[.int .i64 3, .int .i64 (c : Int), .slice A4 n ka4, .int .u64 (r : Int), .slice R4 3 ra4, .slice S4 3 sa4] 51)).alloc (.cells #[.int .i64 0, .bool false, .int .i64 0, .int .u64 0, .slice none 0 0] 37) = x4 at hbx hbn W4 O4 HX4 ⊢
            have HRPn := Lib.hid (HRP.out.later hbn); clear HRP; have HRP := HRPn; clear HRPn
            have BBn := Lib.hid (BB.out.trans (hbn.mono BB.out.size)); clear BB; have BB := BBn; clear BBn
            clear ha hs0 hs1 hb hP hbx hbn
            have HRQ : Hid (RunP3 w b0 (b0 + 1) 3 (c : Int) n r 3 (.slice none 0 0) (.slice vA k vcap) [] hs G w4.heap.size (w3.heap.size + 1) [.int .i64 0, .bool false, .int .i64 (a : Int), .int .u64 0, .slice none 0 0] G6 x4) := Lib.hid (by
              obtain ⟨q0, q1, q2⟩ := HP4.out (Nt2 b0 (.slice none 0 0) (.slice vA k vcap)) ⟨fun b hb => HOLD3.out b hb, O5n.out.1, O5n.out.2.1, O5n.out.2.2⟩
              have hw3 := HB4.out.size
              have hsz := HSZ3.out
              exact ⟨HRP.out.u, ⟨A4, ka4, R4, ra4, S4, sa4, W4.out, q0, q1.later HS4.out.1 HX4.out, q2.later HS4.out.2 HX4.out, fun P h => h.elim⟩, HRP.out.out, ⟨by have := HSZ3.out; omega, by omega⟩, fun k hk => by
                rcases hk with hk | hk
                · cases hk
                · exact ⟨by have := (HRP.out.u.held.lt k hk).2; have := HLX3.out k hk; omega, (HRP.out.off k (.inr hk)).2⟩⟩)
            clear W4 O4 HS4 HX4 HB4 HP4 HRP W5 O5n HOLD3 HSZ3 BB
            obtain ⟨A8, ka8, R8, ra8, S8, sa8, hW8, _⟩ := HRQ.out.u.run
            obtain ⟨zx, ⟨y0, y1, y2, y3, y4, y5⟩, f0, f1, f2, f3, f4, f5⟩ := hW8.1.six
            obtain ⟨A9, ka9, R9, ra9, S9, sa9, hW9, o0, o1, o2, _⟩ := HRQ.out.next
            obtain ⟨_, ⟨e0, e1, e2, e3, e4, e5⟩, _⟩ := hW9.1.six
            have W9 := Lib.hid hW9
            have OF9 := Lib.hid (And.intro o0 (And.intro o1 o2))
            have HPL := Lib.hid HRQ.out.u.pile
            have HHL := Lib.hid HRQ.out.u.held
            have HVO := Lib.hid HRQ.out.out
            have hbel := HRQ.out.u.below
            have hfar := HRQ.out.far.1
            have hfar2 := HRQ.out.far.2
            have nb : ¬ (w4.heap.size = b0) := by omega
            have nb' : ¬ (b0 = w4.heap.size) := fun e => nb e.symm
            have hglt := HRQ.out.u.lt
            clear hW8 hW9 o0 o1 o2
            have hfo : ¬ (w3.heap.size + 1 = b0) := by omega
            go_upto_region 19 with fail
            refine gen_w (P := fun W => Code.wp _ _ _ _ W) (fun z => RunU3 w b0 (b0 + 1) 3 (c : Int) n r 3 (.slice none 0 0) (.slice vA k vcap) [] hs G6 z ∧ VarAt z (w3.heap.size + 1) [.int .i64 0, .bool false, .int .i64 (a : Int), .int .u64 0, .slice none 0 0]) ⟨(HRQ.out.u.put (by repeat (first | with_reducible assumption | with_reducible refine Below.drew ?_ | with_reducible refine below_al ?_ | (with_reducible refine below_set1 (by omega) _ ?_))) (by simp) (by repeat (first | with_reducible exact HPL.out | (with_reducible refine OwnI.apart ?_ _ _ _ (by omega)))) (by repeat (first | with_reducible exact HHL.out | (with_reducible refine OwnI.apart ?_ _ _ _ (by omega)))) ⟨A9, ka9, R9, ra9, S9, sa9, ⟨VarAt.of6 (by simp; omega) (by go_simp) (by go_simp) (by go_simp) (by go_simp) (by go_simp) (by go_simp) (by go_simp) (by go_simp) (by go_simp) (by go_simp) (by go_simp) (by go_simp), W9.out.2.1.keep (Q := Nt2 b0 (.slice none 0 0) (.slice vA k vcap)) (by repeat (first | with_reducible exact Keep.refl _ _ | with_reducible refine Keep.drew ?_ | with_reducible refine Keep.alloc ?_ _ | (with_reducible refine Keep.set ?_ _ _ _ (by unfold Nt2; omega)))) OF9.out.1, W9.out.2.2.1.keep (Q := Nt2 b0 (.slice none 0 0) (.slice vA k vcap)) (by repeat (first | with_reducible exact Keep.refl _ _ | with_reducible refine Keep.drew ?_ | with_reducible refine Keep.alloc ?_ _ | (with_reducible refine Keep.set ?_ _ _ _ (by unfold Nt2; omega)))) OF9.out.2.1, W9.out.2.2.2.keep (Q := Nt2 b0 (.slice none 0 0) (.slice vA k vcap)) (by repeat (first | with_reducible exact Keep.refl _ _ | with_reducible refine Keep.drew ?_ | with_reducible refine Keep.alloc ?_ _ | (with_reducible refine Keep.set ?_ _ _ _ (by unfold Nt2; omega)))) OF9.out.2.2⟩, OF9.out.1, OF9.out.2.1.keep W9.out.2.2.1 (Q := Nt2 b0 (.slice none 0 0) (.slice vA k vcap)) (by repeat (first | with_reducible exact Keep.refl _ _ | with_reducible refine Keep.drew ?_ | with_reducible refine Keep.alloc ?_ _ | (with_reducible refine Keep.set ?_ _ _ _ (by unfold Nt2; omega)))) OF9.out.2.1, OF9.out.2.2.keep W9.out.2.2.2 (Q := Nt2 b0 (.slice none 0 0) (.slice vA k vcap)) (by repeat (first | with_reducible exact Keep.refl _ _ | with_reducible refine Keep.drew ?_ | with_reducible refine Keep.alloc ?_ _ | (with_reducible refine Keep.set ?_ _ _ _ (by unfold Nt2; omega)))) OF9.out.2.2, fun P h => h.elim⟩), (by repeat (first | with_reducible exact HVO.out | (with_reducible refine VarAt.apart ?_ _ _ (by omega))))⟩ ?_
            rintro z ⟨hz, hvz⟩
            have HZ := Lib.hid hz
            obtain ⟨_, ⟨p1, p2, p3, p4, p5⟩, _⟩ := hvz.five
            clear hz hvz W9 OF9 HPL HHL HVO hbel hfar hfar2 nb nb' hglt y0 y1 y2 y3 y4 y5 f0 f1 f2 f3 f4 f5 zx e0 e1 e2 e3 e4 e5 HRQ hfo hfar3
            have HM9 : Hid (hs.length ≤ 900000) := Lib.hid (by rw [HKL.out]; have := HCK.out; have := HKC.out; omega)
            have HOA : Hid (∀ o, OwnI (z.alloc o) (b0 + 1) (.slice vA k vcap) hs) := Lib.hid (fun o => (HZ.out.later (al_below z o)).held)
            have HZ1 : Hid (∀ o, b0 + 1 ≤ (z.alloc o).heap.size) := Lib.hid (fun o => (HZ.out.later (al_below z o)).size)
            have HNXT : Hid (∀ o v' w', OwnI w' (b0 + 1) v' (hs ++ [a]) → (z.alloc o).grownBy w' (Value.ownBlock (.slice vA k vcap)) → (v'.ownBlock = (Value.ownBlock (.slice vA k vcap)) ∨ v'.ownBlock = some (z.alloc o).heap.size) → RunU3 w b0 (b0 + 1) 3 (c : Int) n r 3 (.slice none 0 0) v' [] (hs ++ [a]) G6 w') := Lib.hid (fun o v' w' h1 h2 h3 => ((HZ.out.later (al_below z o)).swap.nextP h1 h2 h3).swap)
            clear HZ
            go_wp2_with (at_builtin; (refine wpList_appendI (by rfl) (.tmp 109) (.tmp 112) (by rfl) (b0 + 1) (.slice vA k vcap) hs (by rfl) (HOA.out _) z.heap.size 1 a (by rfl) (by go_simp) HM9.out (HZ1.out _) ?_); (intro v9 w9 hown9 hg9 hv9; have HZ := Lib.hid (HNXT.out _ _ _ hown9 hg9 hv9); clear hown9 hg9 hv9 HNXT HOA HZ1 HM9))
            go_roundw
            case rel => exact ⟨i + 1, G6, hs ++ [a], by omega, by go_num, HNX.out, HZ.out⟩
            case measure => simp [intOf]; omega
        · have hpop : ¬ (x % 2 = 0 ∨ k = 0) := by omega
          have hk0 : 0 < k := by omega
          have dx : ((x : Int) % 2 == 0) = false := by rw [beq_eq_false_iff_ne]; omega
          have dk : ((k : Int) == 0) = false := by rw [beq_eq_false_iff_ne]; omega
          have dk' : (k == 0) = false := by rw [beq_eq_false_iff_ne]; omega
          obtain ⟨m, hm⟩ : ∃ m, x / 6 % k = m := ⟨_, rfl⟩
          have hmk : m < k := by rw [← hm]; exact Nat.mod_lt _ hk0
          have hq3 : (x : Int) / 6 % (k : Int) = (m : Int) := by rw [← hm, Int.natCast_emod, Int.natCast_ediv]; rfl
          obtain ⟨q, hq⟩ : ∃ q, hs[m]? = some q := ⟨_, List.getElem?_eq_getElem (by rw [HKL.out]; exact hmk)⟩
          have HQ := Lib.hid hq
          obtain ⟨hg, rfl, hvcap, r1⟩ := HR.out.held.at_ hq
          obtain ⟨hq1, hqc, hops, hnx⟩ := HRET i me m q G hs HEA.out hq
          have HNX := Lib.hid hnx
          generalize retG 3 q G = G5 at *
          have i2 : (0 : Int) ≤ (m : Int) := by omega
          have i3 : (m : Int) < (k : Int) := by omega
          have HKB : Hid (k ≤ 8) := Lib.hid (by have := HEA.out.le; rw [HKL.out] at this; have := HCK.out; omega)
          clear hpop hm hk0 hnx hq
          go_upto_region 22 with fail
          rw [hq3]
          clear hq3 r1
          have HAL : ∀ (A : Option Addr) (ka : Nat) (R : Option Addr) (ra : Nat) (S : Option Addr) (sa : Nat) (w : World), Hid (AtW w A n G) → Hid (StmsAt w R 3 (zerosS 3)) → Hid (StmsAt w S 3 (zerosS 3)) →
              Calls Try.prog 16 #[.agg #[.int .i64 3, .int .i64 (c : Int), .slice A n ka, .int .u64 (r : Int), .slice R 3 ra, .slice S 3 sa], .int .i64 (me : Int), .agg #[.int .i64 5, .int .i64 (q : Int), .int .i64 0, .int .u64 0], .int .i64 9] w (AloneEndE w 3 (c : Int) A n r R S 3 G5 (zerosS 3) (zerosS 3) 0 false 0) := HOPS me 5 (q : Int) 0 0 false 0 G G5 9 9 hme hops (Nat.le_refl _) (by decide) (fun _ => ⟨by omega, by have := HCK.out; omega⟩) rfl rfl rfl
          have rH : ∀ w', Below wr.heap.size wr w' → w'.cell? ⟨hg, m, none⟩ = some (.int .i64 (q : Int)) := fun w' hb => by
            obtain ⟨g2, e, _, hcell⟩ := (HR.out.held.later hb).at_ HQ.out
            cases e
            exact hcell
          obtain ⟨A1, ka1, R1, ra1, S1, sa1, hW, o0, o1, o2, _⟩ := HWD.out
          have W1 := Lib.hid hW
          have O1 := Lib.hid (And.intro o0 (And.intro o1 o2))
          obtain ⟨c0, c1, c2, c3, c4, c5⟩ := hW.cells
          have HGlt := Lib.hid hW.1.1
          clear hW o0 o1 o2
          clear hops c0 c1 c2 c3 c4 c5 HWD HOPS HALL HRET
          have rC0 := fun w' (hb : Below wr.heap.size wr w') => (W1.out.later hb).cells.1
          have rC1 := fun w' (hb : Below wr.heap.size wr w') => (W1.out.later hb).cells.2.1
          have rC2 := fun w' (hb : Below wr.heap.size wr w') => (W1.out.later hb).cells.2.2.1
          have rC3 := fun w' (hb : Below wr.heap.size wr w') => (W1.out.later hb).cells.2.2.2.1
          have rC4 := fun w' (hb : Below wr.heap.size wr w') => (W1.out.later hb).cells.2.2.2.2.1
          have rC5 := fun w' (hb : Below wr.heap.size wr w') => (W1.out.later hb).cells.2.2.2.2.2
          have HB0 : Below wr.heap.size wr wr := Below.refl _ _
          have HQN : Hid (∀ b, wr.heap.size ≤ b → (Nt2 b0 (.slice none 0 0) (.slice (some ⟨hg, 0, none⟩) k vcap)) b) := HOLD
          go_cut [18, 19, 20] from 124 to 134 (fun s18 s19 s20 wx => AlCut (Nt2 b0 (.slice none 0 0) (.slice (some ⟨hg, 0, none⟩) k vcap)) 3 (c : Int) n r 3 G5 0 false 0 wr b0 [.int .i64 3, .int .i64 (c : Int), .slice A1 n ka1, .int .u64 (r : Int), .slice R1 3 ra1, .slice S1 3 sa1] s18 s19 s20 wx)
          case first =>
            go_region_held3 (fun w' => Below wr.heap.size wr w') (repeat (first | with_reducible assumption | with_reducible refine Below.drew ?_ | with_reducible refine below_al ?_ | (with_reducible refine below_set1 (by omega) _ ?_)))
              (first | (go_at_call 16; (with_reducible refine (HAL A1 ka1 R1 ra1 S1 sa1 _ (W1.out.later (by repeat (first | with_reducible assumption | with_reducible refine Below.drew ?_ | with_reducible refine below_al ?_))).gA (W1.out.later (by repeat (first | with_reducible assumption | with_reducible refine Below.drew ?_ | with_reducible refine below_al ?_))).g0 (W1.out.later (by repeat (first | with_reducible assumption | with_reducible refine Below.drew ?_ | with_reducible refine below_al ?_))).g1).mono ?_); rintro e w4 ⟨A4, ka4, R4, ra4, S4, sa4, rfl, ha, hs0, hs1, hb, hP⟩; have hBw4 : Below wr.heap.size wr w4 := below_step hb (by repeat (first | with_reducible assumption | with_reducible refine Below.drew ?_ | with_reducible refine below_al ?_)); have hz4 := hBw4.size; have HA4 := Lib.hid ha; have HS4 := Lib.hid hs0; have HT4 := Lib.hid hs1; have HQ := Lib.hid (alone_arm (Q := (Nt2 b0 (.slice none 0 0) (.slice (some ⟨hg, 0, none⟩) k vcap))) (by repeat (first | with_reducible assumption | with_reducible refine Below.drew ?_ | with_reducible refine below_al ?_)) hb hP W1.out.2.1 W1.out.2.2.1 W1.out.2.2.2 O1.out.1 O1.out.2.1 O1.out.2.2 HQN.out); (try (have VBa : VarAt w4 wr.heap.size [.int .i64 0, .int .i64 0, .slice none 0 0, .int .u64 0, .slice none 0 0, .slice none 0 0] := VarAt.onto hb (VarAt.made wr #[.int .i64 0, .int .i64 0, .slice none 0 0, .int .u64 0, .slice none 0 0, .slice none 0 0] 51) rfl; obtain ⟨_, ⟨va0, va1, va2, va3, va4, va5⟩, wa0, wa1, wa2, wa3, wa4, wa5⟩ := VBa.six)); (try (have VBb : VarAt w4 wr.heap.size [.int .i64 0, .bool false, .int .i64 0, .int .u64 0, .slice none 0 0] := VarAt.onto hb (VarAt.made wr #[.int .i64 0, .bool false, .int .i64 0, .int .u64 0, .slice none 0 0] 37) rfl; obtain ⟨_, ⟨vb0, vb1, vb2, vb3, vb4⟩, wb0, wb1, wb2, wb3, wb4⟩ := VBb.five)); (try (have VBc : VarAt w4 (wr.heap.size + 1) [.int .i64 0, .bool false, .int .i64 0, .int .u64 0, .slice none 0 0] := VarAt.onto hb (VarAt.made1 wr (.cells #[.int .i64 0, .int .i64 0, .slice none 0 0, .int .u64 0, .slice none 0 0, .slice none 0 0] 51) #[.int .i64 0, .bool false, .int .i64 0, .int .u64 0, .slice none 0 0] 37) rfl; obtain ⟨_, ⟨vc0, vc1, vc2, vc3, vc4⟩, wc0, wc1, wc2, wc3, wc4⟩ := VBc.five)); (try (have VBd : VarAt w4 (wr.heap.size + 1) [.int .i64 0, .int .i64 0, .slice none 0 0, .int .u64 0, .slice none 0 0, .slice none 0 0] := VarAt.onto hb (VarAt.made1 wr (.cells #[.int .i64 0, .bool false, .int .i64 0, .int .u64 0, .slice none 0 0] 37) #[.int .i64 0, .int .i64 0, .slice none 0 0, .int .u64 0, .slice none 0 0, .slice none 0 0] 51) rfl; obtain ⟨_, ⟨vd0, vd1, vd2, vd3, vd4, vd5⟩, wd0, wd1, wd2, wd3, wd4, wd5⟩ := VBd.six)); (try (have VBe : VarAt w4 wr.heap.size [.int .i64 0, .int .i64 0, .slice none 0 0, .int .u64 0, .slice none 0 0, .slice none 0 0] := VarAt.onto hb ((VarAt.made wr #[.int .i64 0, .int .i64 0, .slice none 0 0, .int .u64 0, .slice none 0 0, .slice none 0 0] 51).below (al_below _ (.cells #[.int .i64 0, .bool false, .int .i64 0, .int .u64 0, .slice none 0 0] 37))) rfl; obtain ⟨_, ⟨ve0, ve1, ve2, ve3, ve4, ve5⟩, we0, we1, we2, we3, we4, we5⟩ := VBe.six)); (try (have VBf : VarAt w4 wr.heap.size [.int .i64 0, .bool false, .int .i64 0, .int .u64 0, .slice none 0 0] := VarAt.onto hb ((VarAt.made wr #[.int .i64 0, .bool false, .int .i64 0, .int .u64 0, .slice none 0 0] 37).below (al_below _ (.cells #[.int .i64 0, .int .i64 0, .slice none 0 0, .int .u64 0, .slice none 0 0, .slice none 0 0] 51))) rfl; obtain ⟨_, ⟨vf0, vf1, vf2, vf3, vf4⟩, wf0, wf1, wf2, wf3, wf4⟩ := VBf.five)); clear ha hs0 hs1 hb hP))
            all_goals
              go_wp2_with fail
              go_meet
              obtain ⟨N2, hN2, hN3, hN4, o0, o1, o2⟩ := HQ.out
              have hgz := HGlt.out
              simp at hN2
              obtain ⟨_, ⟨c0, c1, c2, c3, c4, c5⟩, q0, q1, q2, q3, q4, q5⟩ := (W1.out.later hBw4).1.six
              exact AlCut.of (N2 := N2) (w4 := w4) (ka := ka4) (ra := ra4) (sa := sa4) (by repeat (first | with_reducible exact Keep.refl _ _ | with_reducible refine Keep.drew ?_ | with_reducible refine Keep.alloc ?_ _ | (with_reducible refine Keep.set ?_ _ _ _ (by unfold Qc Nt2; omega)))) (by omega) (by omega) (VarAt.of6 (by first | (simp; done) | (simp; omega) | omega) (by go_simp) (by go_simp) (by go_simp) (by go_simp) (by go_simp) (by go_simp) (by go_simp) (by go_simp) (by go_simp) (by go_simp) (by go_simp) (by go_simp)) (VarAt.mk5 (by first | (simp; done) | (simp; omega) | omega) (by go_simp) (by go_simp) (by go_simp) (by go_simp) (by go_simp) (by go_simp) (by go_simp) (by go_simp) (by go_simp) (by go_simp)) (VarAt.of6 (by first | (simp; done) | (simp; omega) | omega) (by go_simp) (by go_simp) (by go_simp) (by go_simp) (by go_simp) (by go_simp) (by go_simp) (by go_simp) (by go_simp) (by go_simp) (by go_simp) (by go_simp)) HA4.out HS4.out HT4.out o0 o1 o2 (by repeat (first | with_reducible assumption | with_reducible refine Below.drew ?_ | with_reducible refine below_al ?_ | (with_reducible refine below_set1 (by omega) _ ?_)))
          case rest =>
            obtain ⟨b1, b2, rfl, rfl, rfl, n1, n2, ⟨A3, ka3, R3, ra3, S3, sa3, hw3, o0, o1, o2⟩, hv2, hvg, hby⟩ := hcut
            clear HAL rC0 rC1 rC2 rC3 rC4 rC5 HB0 HQN rH
            have HRP : Hid (RunP3 w b0 (b0 + 1) 3 (c : Int) n r 3 (.slice none 0 0) (.slice (some ⟨hg, 0, none⟩) k vcap) [] hs G b1 b2 [.int .i64 0, .bool false, .int .i64 0, .int .u64 0, .slice none 0 0] G5 wc) := Lib.hid ⟨HR.out.later hby, ⟨A3, ka3, R3, ra3, S3, sa3, hw3, o0, o1, o2, fun P h => h.elim⟩, hv2, ⟨by have := HSZR.out; omega, by have := HSZR.out; omega⟩, fun k hk => by
              rcases hk with hk | hk
              · cases hk
              · have := HLH.out k hk; omega⟩
            have HFT : Hid (RowI wc ⟨hg, 0, none⟩ m (hs.take m)) := Lib.hid (by
              have h := HRP.out.u.held
              rw [← HKL.out] at h
              exact h.front (by rw [HKL.out]; omega))
            obtain ⟨ad, had, hal⟩ : ∃ ad, (∀ W, (Instr.slice 35 (.slice (some ⟨hg, 0, none⟩) k vcap) (some (.int .i64 ((m : Int) + 1))) none none).run Try.prog W = .ok (.slice (some ad) (k - (m + 1)) (vcap - (m + 1))) W) ∧ RowI wc ad (k - (m + 1)) (hs.drop (m + 1)) := by
              have h := HRP.out.u.held
              rw [← HKL.out] at h
              have h2 := h.back (k := m + 1) (by rw [HKL.out]; omega)
              rw [HKL.out] at h2
              exact h2
            have HBK : Hid (RowI wc ad (k - (m + 1)) (hs.drop (m + 1))) := Lib.hid hal
            clear hal W1 O1 HGlt HR hw3 o0 o1 o2 hv2 hvg hby n1 n2 HOLD HSZR BB
            have hcut := run_cutI_h (some ⟨hg, 0, none⟩) k vcap m (by omega)
            have hw1 : IntKind.i64.wrap ((m : Int) + 1) = (m : Int) + 1 := by rw [IntKind.wrap_i64]; have := HKB.out; omega
            have b1' : (m : Int) ≤ (vcap : Int) := by omega
            have b2' : (m : Int) + 1 ≤ (k : Int) := by omega
            have b3' : (0 : Int) ≤ (m : Int) + 1 := by omega
            have b4' : (k : Int) ≤ (vcap : Int) := by omega
            have hkb := HKB.out
            go_upto_region 25 with fail
            go_region_held3 (fun w' => Below wc.heap.size wc w') (first | assumption | (exact Below.drew (Below.refl _ _)) | (exact Below.drew (by assumption)) | (exact (fun h => Below.alloc h h.size _) (by assumption)))
              (first
                | (refine step_appendI (w0 := wc) (by assumption) (by rfl) (.tmp 137) (.tmp 140) (by rfl) _ [] (by rfl) (show OwnI ((wc.alloc (.cells #[] 3)).drew) wc.heap.size _ [] from (OwnI.made wc).drew) ⟨hg, 0, none⟩ m vcap (hs.take m) (by rfl) (HFT.out.below (by assumption)) (by simp; omega) ?_; intro v2 w2 hown2 hB2; have HO2 : Hid (OwnI w2 wc.heap.size v2 (hs.take m)) := hown2; clear hown2)
                | (refine step_appendI (w0 := wc) (by assumption) (by rfl) (.tmp 141) (.tmp 145) (by rfl) v2 (hs.take m) (by rfl) HO2.out ad (k - (m + 1)) (vcap - (m + 1)) (hs.drop (m + 1)) (by rfl) (HBK.out.below (by assumption)) (by rw [HFT.out.1]; omega) ?_; intro v3 w5 hown3 hB3; have HO3 : Hid (OwnI w5 wc.heap.size v3 (hs.take m ++ hs.drop (m + 1))) := hown3; clear hown3))
            have HZ : Hid (RunP3 w b0 (b0 + 1) 3 (c : Int) n r 3 (.slice none 0 0) v3 [] (hs.take m ++ hs.drop (m + 1)) G b1 b2 [.int .i64 0, .bool false, .int .i64 0, .int .u64 0, .slice none 0 0] G5 w5) := Lib.hid (HRP.out.newH hB3 HO3.out)
            clear HRP HO3 HO2 HFT HBK hcut had hw1 b1' b2' b3' b4' hB3
            obtain ⟨A8, ka8, R8, ra8, S8, sa8, hW8, _⟩ := HZ.out.u.run
            obtain ⟨zx, ⟨y0, y1, y2, y3, y4, y5⟩, f0, f1, f2, f3, f4, f5⟩ := hW8.1.six
            obtain ⟨A9, ka9, R9, ra9, S9, sa9, hW9, o0, o1, o2, _⟩ := HZ.out.next
            obtain ⟨_, ⟨e0, e1, e2, e3, e4, e5⟩, _⟩ := hW9.1.six
            have W9 := Lib.hid hW9
            have OF9 := Lib.hid (And.intro o0 (And.intro o1 o2))
            have HPL := Lib.hid HZ.out.u.pile
            have HHL := Lib.hid HZ.out.u.held
            have HVO := Lib.hid HZ.out.out
            have hbel := HZ.out.u.below
            have hfar := HZ.out.far.1
            have hfar2 := HZ.out.far.2
            have nb : ¬ (b1 = b0) := by omega
            have nb' : ¬ (b0 = b1) := fun e => nb e.symm
            have hglt := HZ.out.u.lt
            clear hW8 hW9 o0 o1 o2
            go_wp2_with fail
            go_roundw
            case rel => exact ⟨i + 1, G5, hs.take m ++ hs.drop (m + 1), by omega, by go_num, HNX.out, (HZ.out.u.put (by repeat (first | with_reducible assumption | with_reducible refine Below.drew ?_ | with_reducible refine below_al ?_ | (with_reducible refine below_set1 (by omega) _ ?_))) (by simp) (by repeat (first | with_reducible exact HPL.out | (with_reducible refine OwnI.apart ?_ _ _ _ (by omega)))) (by repeat (first | with_reducible exact HHL.out | (with_reducible refine OwnI.apart ?_ _ _ _ (by omega)))) ⟨A9, ka9, R9, ra9, S9, sa9, ⟨VarAt.of6 (by simp; omega) (by go_simp) (by go_simp) (by go_simp) (by go_simp) (by go_simp) (by go_simp) (by go_simp) (by go_simp) (by go_simp) (by go_simp) (by go_simp) (by go_simp), W9.out.2.1.keep (Q := Nt2 b0 (.slice none 0 0) v3) (by repeat (first | with_reducible exact Keep.refl _ _ | with_reducible refine Keep.drew ?_ | with_reducible refine Keep.alloc ?_ _ | (with_reducible refine Keep.set ?_ _ _ _ (by unfold Nt2; omega)))) OF9.out.1, W9.out.2.2.1.keep (Q := Nt2 b0 (.slice none 0 0) v3) (by repeat (first | with_reducible exact Keep.refl _ _ | with_reducible refine Keep.drew ?_ | with_reducible refine Keep.alloc ?_ _ | (with_reducible refine Keep.set ?_ _ _ _ (by unfold Nt2; omega)))) OF9.out.2.1, W9.out.2.2.2.keep (Q := Nt2 b0 (.slice none 0 0) v3) (by repeat (first | with_reducible exact Keep.refl _ _ | with_reducible refine Keep.drew ?_ | with_reducible refine Keep.alloc ?_ _ | (with_reducible refine Keep.set ?_ _ _ _ (by unfold Nt2; omega)))) OF9.out.2.2⟩, OF9.out.1, OF9.out.2.1.keep W9.out.2.2.1 (Q := Nt2 b0 (.slice none 0 0) v3) (by repeat (first | with_reducible exact Keep.refl _ _ | with_reducible refine Keep.drew ?_ | with_reducible refine Keep.alloc ?_ _ | (with_reducible refine Keep.set ?_ _ _ _ (by unfold Nt2; omega)))) OF9.out.2.1, OF9.out.2.2.keep W9.out.2.2.2 (Q := Nt2 b0 (.slice none 0 0) v3) (by repeat (first | with_reducible exact Keep.refl _ _ | with_reducible refine Keep.drew ?_ | with_reducible refine Keep.alloc ?_ _ | (with_reducible refine Keep.set ?_ _ _ _ (by unfold Nt2; omega)))) OF9.out.2.2, fun P h => h.elim⟩)⟩
            case measure => simp [intOf]; omega
    · obtain rfl : ln = i := by omega
      have d1 : decide ((ln : Int) < (ln : Int)) = false := by rw [decide_eq_false_iff_not]; omega
      have d1' : decide (ln < ln) = false := by rw [decide_eq_false_iff_not]; omega
      go_wp2_with fail
      go_ret
      exact ⟨rfl, BB.out⟩
section
set_option maxRecDepth 100000
set_option maxHeartbeats 2000000
variable {H : Type} {enc : TypeId × Value → H} {w : World}
theorem open_a {v : Value} {d : DataW H} {ps : List MemPlace} {base : Nat} (hval : Value.okWide Try.prog w .any base 5 v) (h : DataW.Trod enc Try.prog w 0 (fun _ => true) true 5 v d ps) (hs : Sized Try.prog 5 d) (hlt : ∀ z ∈ ps, z.block < w.heap.size) :
    ∃ (a : Nat), v = .int .u8 (a : Int) ∧ a < 256 := by
  obtain ⟨a0, rfl⟩ := okWide_int Try.underlying5 hval
  obtain ⟨fuel, hf0⟩ := h
  have hf : DataW.trod enc Try.prog w 0 (fun _ => true) true fuel 5 [.int .u8 a0] = some (d, ps) := hf0
  obtain ⟨a, e0, ha⟩ := leaf_u8 Try.underlying5 hf
  cases e0
  exact ⟨_, rfl, ha⟩
theorem open_b {v : Value} {d : DataW H} {ps : List MemPlace} {base : Nat} (hval : Value.okWide Try.prog w .any base 30 v) (h : DataW.Trod enc Try.prog w 0 (fun _ => true) true 30 v d ps) (hs : Sized Try.prog 30 d) (hlt : ∀ z ∈ ps, z.block < w.heap.size) :
    ∃ (bA : Option Addr) (bL bC : Nat) (bx : List Nat), v = .slice bA bL bC ∧ (bL ≤ bC ∧ bL ≤ 140737488355328 ∧ AtB w bA bL bx) := by
  obtain ⟨a0, len, cap, rfl⟩ := okWide_slice Try.underlying30 hval
  obtain ⟨fuel, hf0⟩ := h
  have hf : DataW.trod enc Try.prog w 0 (fun _ => true) true fuel 30 [.slice a0 len cap] = some (d, ps) := hf0
  obtain ⟨bA, bL, bC, bx, e0, hb⟩ := leaf_bytes hf hs hlt
  cases e0
  exact ⟨_, _, _, _, rfl, hb⟩
end

set_option maxRecDepth 100000 in
set_option maxHeartbeats 8000000 in
theorem lifted (os : Os) (started : os.Started) (H : Type) (enc : TypeId × Value → H) :
    ReturnsInHanded {} Try.checked os 4 .any (Rows.epochAloneSpec.pre6 enc Try.prog Try.f4 Rows.epochAloneRow.domain false) (Rows.epochAloneSpec.post enc Try.prog Try.f4 false true false false) := by
  refine law_lifted (C := Try.checked) own started (by kernel_rfl) Try.func4
    (ChangeSpec.witness6 (enc := enc) (C := Try.checked) false ⟨#[], #[.int .u8 0, .slice none 0 0], []⟩ 8 (by kernel_rfl) (by kernel_rfl) (by kernel_rfl) (by kernel_rfl))
    (by kernel_rfl) (by kernel_rfl) Try.underlying4 rfl (by kernel_rfl) ?_
  intro W base args ds before hval hA hwt hlt
  have hA' : DataW.TrodAll enc Try.prog W 0 (fun _ => true) true Try.f4.params.toList args.toList ds before := hA
  have hval' : ∀ (j : Nat) t v, Try.f4.params[j]? = some t → args[j]? = some v → Value.okWide Try.prog W .any base t v := hval
  have hwt' : (DataW.weightsEach Try.prog Try.f4.params.toList ds).all (· ≤ reachBytes) = true := hwt
  rw [Try.params4] at hA' hval' hwt'
  obtain ⟨v0, vs0, d0, ds0, p0, q0, hargs, rfl, rfl, k0, r0⟩ := trodAll_cons hA'
  obtain ⟨v1, vs1, d1, ds1, p1, q1, rfl, rfl, rfl, k1, r1⟩ := trodAll_cons r0
  obtain ⟨rfl, rfl, rfl⟩ := trodAll_nil r1
  obtain rfl : args = #[v0, v1] := by cases args; simp_all
  obtain ⟨a, rfl, ha⟩ := open_a (hval' 0 5 v0 rfl rfl) k0 (sized_of hwt' (j := 0) (t := 5) rfl rfl) (fun x hx => hlt x (by simp [hx]))
  obtain ⟨bA, bL, bC, bx, rfl, hb⟩ := open_b (hval' 1 30 v1 rfl rfl) k1 (sized_of hwt' (j := 1) (t := 30) rfl rfl) (fun x hx => hlt x (by simp [hx]))
  refine ⟨rfl, ?_⟩
  obtain ⟨hbc, hb9, hbat⟩ := hb
  by_cases hln : bL ≤ 40
  · exact walk a ha bA bL bC bx hln W (Lib.hid hbat)
  · exact walkA a ha bA bL bC bx (by omega) W (Lib.hid hbat)

theorem over : Rows.epochAloneRow.holds Try.pinned (OpenSpec.ofChange Rows.epochAloneSpec) :=
  OpenClaim.holds_of_wide 4 Try.f4 rfl rfl rfl rfl rfl rfl rfl ⟨rfl, rfl, rfl, rfl, rfl⟩ rfl rfl rfl rfl rfl (by kernel_rfl) Try.func4 (by kernel_rfl)
    (of_decide_eq_true (by kernel_rfl)) (by unfold Func.isWrapper; first | (rw [if_pos (by decide +kernel)]; kernel_rfl) | (rw [if_neg (by decide +kernel)]; exact ⟨rfl, rfl⟩))
    (fun os started H enc _ => lifted os started H enc)

/-- The statement. -/
theorem proved : Rows.EpochAloneSaid :=
  over
#print axioms proved
end Go.Proofs.Ythcifknnppohfaa.epochAlone
