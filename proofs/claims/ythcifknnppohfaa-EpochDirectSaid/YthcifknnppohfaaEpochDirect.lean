/-
  EpochDirect: made at once, pins, records that are taken and retired, and epochs, do what they do access by access; for 2 threads, 6 records, 30 operations. No condition beyond the statement's own.
-/
import Derived.Test.YthcifknnppohfaaEpcDir
import Derived.Test.YthcifknnppohfaaAccLeaf
import Derived.Test.YthcifknnppohfaaLaw
import Derived.Test.YthcifknnppohfaaFields
import Derived.Deep.Cut
import Derived.Deep.CutRange
namespace Go.Proofs.Ythcifknnppohfaa.epochDirect
open Go.ChangeShapes Go.WideShapes Go.ChangeAt Go.RowKit Go.Deep Go.BigFrame
set_option linter.unusedVariables false
theorem own : ownKnob Try.prog.godebug = none := by kernel_rfl

theorem ntx1 (b0 b1 : Nat) (v : Value) (L : List (Nat × List Value)) (N : Nat) : b1 < N → ¬ NtX b0 b1 v L b1 := fun _ h => h.1.2.1 rfl

set_option maxRecDepth 100000 in
set_option maxHeartbeats 16000000 in
theorem walkA (c0 : Nat) (hc0 : c0 < 256) (LA : Option Addr) (ln lc : Nat) (xs : List Nat) (hln : 30 < ln) (w : World) (HL : Hid (AtB w LA ln xs)) :
    Calls Try.prog 8 #[.int .u8 (c0 : Int), .slice LA ln lc] w fun e w' => e = .returned (.bool true) ∧ Below w.heap.size w w' := by
  obtain ⟨r, hr⟩ : ∃ r : Nat, r = 0 := ⟨0, rfl⟩
  obtain ⟨c, hc⟩ : ∃ c, c0 % 7 = c := ⟨_, rfl⟩
  have hc1 : c ≤ 6 := by omega
  have q1 : (c0 : Int) % 7 = (c : Int) := by omega
  have dl0 : decide ((30 : Int) < (ln : Int)) = true := by rw [decide_eq_true_iff]; omega
  have dl0' : decide (30 < ln) = true := by rw [decide_eq_true_iff]; omega
  have HNEW : ∀ w, Calls Try.prog 15 #[.int .i64 2, .int .i64 (c : Int)] w (NewWdR w 2 c 2 (sizeN 2 c) (newF 2 c) r) := fun w => newWdR 2 c (by decide) (by decide) (by omega) hr w
  have HB0 : Hid (ED c (newF 2 c) []) := Lib.hid (ED.start (by omega))
  have HOPS := fun (me : Nat) (k u : Int) (d : Nat) (er : Int) (oi : Bool) (NI : Int) (G GF : Nat → Nat) (s most : Nat) (hme : me < 2) (h : Ops 2 me k u (sizeN 2 c) G d GF s) (hs : s ≤ most) (hmo : most ≤ 1000) (hu : k = 5 → 1 ≤ u ∧ u < 1048576) (he : eErr k = er) (ho : eIs k d = oi) (hN : (eN k d : Int) = NI) => opsAlone (c := c) (by decide) (by decide) (by omega) hme h hs hmo hu he ho hN r
  have HCK := Lib.hid hc1
  have BW : Hid (w.heap.size ≤ w.heap.size) := Lib.hid (Nat.le_refl _)
  generalize newF 2 c = G0 at *
  obtain ⟨n, hn⟩ : ∃ n, sizeN 2 c = n := ⟨_, rfl⟩
  have HN := Lib.hid hn
  rw [hn] at HNEW
  clear hr hc hn
  go_enter Try.func8, Try.ntmps8
  go_wp2_with fail
  (with_reducible refine (epcShown _).mono ?_)
  rintro e w1 ⟨rfl, hb⟩
  have BB := Lib.hid hb
  clear hb
  have BWn : Hid (w.heap.size ≤ w1.heap.size) := Lib.hid BB.out.size
  clear BW; have BW := BWn; clear BWn
  go_wp2_with fail
  try rw [q1]
  try go_wp2_with fail
  go_ret
  exact ⟨rfl, BB.out⟩

set_option maxRecDepth 100000 in
set_option maxHeartbeats 16000000 in
theorem walk (c0 : Nat) (hc0 : c0 < 256) (LA : Option Addr) (ln lc : Nat) (xs : List Nat) (hln : ln ≤ 30) (w : World) (HL : Hid (AtB w LA ln xs)) :
    Calls Try.prog 8 #[.int .u8 (c0 : Int), .slice LA ln lc] w fun e w' => e = .returned (.bool true) ∧ Below w.heap.size w w' := by
  obtain ⟨r, hr⟩ : ∃ r : Nat, r = 0 := ⟨0, rfl⟩
  obtain ⟨c, hc⟩ : ∃ c, c0 % 7 = c := ⟨_, rfl⟩
  have hc1 : c ≤ 6 := by omega
  have q1 : (c0 : Int) % 7 = (c : Int) := by omega
  have dl0 : decide ((30 : Int) < (ln : Int)) = false := by rw [decide_eq_false_iff_not]; omega
  have dl0' : decide (30 < ln) = false := by rw [decide_eq_false_iff_not]; omega
  have HNEW : ∀ w, Calls Try.prog 15 #[.int .i64 2, .int .i64 (c : Int)] w (NewWdR w 2 c 2 (sizeN 2 c) (newF 2 c) r) := fun w => newWdR 2 c (by decide) (by decide) (by omega) hr w
  have HB0 : Hid (ED c (newF 2 c) []) := Lib.hid (ED.start (by omega))
  have HOPS := fun (me : Nat) (k u : Int) (d : Nat) (er : Int) (oi : Bool) (NI : Int) (G GF : Nat → Nat) (s most : Nat) (hme : me < 2) (h : Ops 2 me k u (sizeN 2 c) G d GF s) (hs : s ≤ most) (hmo : most ≤ 1000) (hu : k = 5 → 1 ≤ u ∧ u < 1048576) (he : eErr k = er) (ho : eIs k d = oi) (hN : (eN k d : Int) = NI) => opsAlone (c := c) (by decide) (by decide) (by omega) hme h hs hmo hu he ho hN r
  have HCK := Lib.hid hc1
  have BW : Hid (w.heap.size ≤ w.heap.size) := Lib.hid (Nat.le_refl _)
  generalize newF 2 c = G0 at *
  obtain ⟨n, hn⟩ : ∃ n, sizeN 2 c = n := ⟨_, rfl⟩
  have HN := Lib.hid hn
  rw [hn] at HNEW
  have HLN : Hid (ln ≤ 30) := Lib.hid hln
  clear hr hc hn hln
  go_enter Try.func8, Try.ntmps8
  go_wp2_with fail
  (with_reducible refine (epcShown _).mono ?_)
  rintro e w1 ⟨rfl, hb⟩
  have BB := Lib.hid hb
  clear hb
  have BWn : Hid (w.heap.size ≤ w1.heap.size) := Lib.hid BB.out.size
  clear BW; have BW := BWn; clear BWn
  go_wp2_with fail
  try rw [q1]
  (with_reducible refine (HNEW _).mono ?_)
  rintro e w0 ⟨A0, ka0, R0, ra0, S0, sa0, rfl, ha, hs0, hs1, hb, hP⟩
  go_upto_region 6 with fail
  have hal := al_below w0 (.cells #[.int .i64 2, .int .i64 (c : Int), .slice A0 n ka0, .int .u64 (r : Int), .slice R0 2 ra0, .slice S0 2 sa0] 51)
  have hbn := hb.trans (hal.mono hb.size)
  have W0 : Hid (WdFrom (fun b => b ≠ w0.heap.size) (fun _ => False) (w0.alloc (.cells #[.int .i64 2, .int .i64 (c : Int), .slice A0 n ka0, .int .u64 (r : Int), .slice R0 2 ra0, .slice S0 2 sa0] 51)) w0.heap.size 2 (c : Int) n r 2 G0 (zerosS 2) (zerosS 2)) := Lib.hid ⟨A0, ka0, R0, ra0, S0, sa0, WdAt.made0 (t := 2) (c := (c : Int)) (k := ka0) (r := r) (ra := ra0) (sa := sa0) w0 51 ha hs0 hs1, ha.old.mono fun b hb => (by omega), (hs0.old.mono fun b hb => (by omega : b ≠ w0.heap.size)).later hs0 hal, (hs1.old.mono fun b hb => (by omega : b ≠ w0.heap.size)).later hs1 hal, fun P h => h.elim⟩
  generalize w0.alloc (.cells #[.int .i64 2, .int .i64 (c : Int), .slice A0 n ka0, .int .u64 (r : Int), .slice R0 2 ra0, .slice S0 2 sa0] 51) = x0 at hal hbn W0 ⊢
  have BBn := Lib.hid (BB.out.trans (hbn.mono BB.out.size)); clear BB; have BB := BBn; clear BBn
  have HG0 : Hid (w.heap.size ≤ w0.heap.size) := Lib.hid (Nat.le_trans BW.out hb.size)
  generalize w0.heap.size = b0 at W0 HG0 ⊢
  clear ha hs0 hs1 hb hP hal hbn
  go_wp2_with fail
  (with_reducible refine (HNEW _).mono ?_)
  clear HNEW q1
  rintro e w1' ⟨A1, ka1, R1, ra1, S1, sa1, rfl, ha, hs0, hs1, hb, hP⟩
  go_upto_region 7 with fail
  have hal := al_below w1' (.cells #[.int .i64 2, .int .i64 (c : Int), .slice A1 n ka1, .int .u64 (r : Int), .slice R1 2 ra1, .slice S1 2 sa1] 51)
  have hbn := hb.trans (hal.mono hb.size)
  have hb0z : b0 < x0.heap.size := W0.out.lt
  have W1 : Hid (WdFrom (fun b => b ≠ b0 ∧ b ≠ w1'.heap.size) (fun _ => False) (w1'.alloc (.cells #[.int .i64 2, .int .i64 (c : Int), .slice A1 n ka1, .int .u64 (r : Int), .slice R1 2 ra1, .slice S1 2 sa1] 51)) w1'.heap.size 2 (c : Int) n r 2 G0 (zerosS 2) (zerosS 2)) := Lib.hid (by
    obtain ⟨q0, q1, q2⟩ := hP (fun b => b ≠ b0) (fun b hb => by omega)
    exact ⟨A1, ka1, R1, ra1, S1, sa1, WdAt.made0 (t := 2) (c := (c : Int)) (k := ka1) (r := r) (ra := ra1) (sa := sa1) w1' 51 ha hs0 hs1, fun hp b o e => ⟨q0 hp b o e, by have := ha.old hp b o e; omega⟩, ((q1.both (hs0.old)).mono fun b hb => (⟨hb.1, by omega⟩ : b ≠ b0 ∧ b ≠ w1'.heap.size)).later hs0 hal, ((q2.both (hs1.old)).mono fun b hb => (⟨hb.1, by omega⟩ : b ≠ b0 ∧ b ≠ w1'.heap.size)).later hs1 hal, fun P h => h.elim⟩)
  have W0n : Hid (WdFrom (fun b => b ≠ b0 ∧ b ≠ w1'.heap.size) (fun _ => False) (w1'.alloc (.cells #[.int .i64 2, .int .i64 (c : Int), .slice A1 n ka1, .int .u64 (r : Int), .slice R1 2 ra1, .slice S1 2 sa1] 51)) b0 2 (c : Int) n r 2 G0 (zerosS 2) (zerosS 2)) := Lib.hid ((W0.out.sub (Q' := fun b => b ≠ b0 ∧ b ≠ w1'.heap.size) (fun b hbb hq => ⟨hq, by have := hb.size; omega⟩)).later hbn)
  have BBn := Lib.hid (BB.out.trans (hbn.mono BB.out.size)); clear BB; have BB := BBn; clear BBn
  have hb1z : w1'.heap.size < (w1'.alloc (.cells #[.int .i64 2, .int .i64 (c : Int), .slice A1 n ka1, .int .u64 (r : Int), .slice R1 2 ra1, .slice S1 2 sa1] 51)).heap.size := W1.out.lt
  have hb01 : b0 < w1'.heap.size := Nat.lt_of_lt_of_le hb0z hb.size
  generalize w1'.alloc (.cells #[.int .i64 2, .int .i64 (c : Int), .slice A1 n ka1, .int .u64 (r : Int), .slice R1 2 ra1, .slice S1 2 sa1] 51) = x1 at hal hbn W1 W0n BB hb1z ⊢
  generalize w1'.heap.size = b1 at W1 W0n hb1z hb01 ⊢
  have HB01 := Lib.hid (And.intro hb01 hb1z)
  clear W0 ha hs0 hs1 hb hP hal hbn hb0z hb1z hb01
  have HZ : Hid (∃ B0, RunX w b0 b1 B0 c n r (.slice none 0 0) [] [] G0 G0 x1) := Lib.hid (by
    have h01 := HB01.out
    have hg0 := HG0.out
    exact ⟨x1.heap.size, BB.out, Nat.le_refl _, ⟨⟨by omega, by omega⟩, ⟨by omega, by omega⟩, by omega⟩, W0n.out.sub (fun b _ hb => ⟨⟨hb.1, hb.2, fun k hk => by cases hk⟩, fun p hp => by cases hp⟩), W1.out.sub (fun b _ hb => ⟨⟨hb.1, hb.2, fun k hk => by cases hk⟩, fun p hp => by cases hp⟩), OwnI.nil _ _, fun p hp => by cases hp⟩)
  obtain ⟨B0, hz⟩ := HZ.out
  have HZ2 := Lib.hid hz
  clear hz HZ W0n W1 BB
  go_wp2_with fail
  clear dl0 dl0'
  go_loopw [9, 10] (fun u9 u10 wr => ∃ (i : Nat) (G : Nat → Nat) (hs : List Nat), i ≤ ln ∧ u10 = .int .i64 (i : Int) ∧ ED c G hs ∧ RunX w b0 b1 B0 c n r u9 hs [] G G wr) (fun _ u _ => ln - (intOf u).toNat)
  case atStart => exact ⟨0, G0, [], Nat.zero_le _, rfl, HB0.out, HZ2.out⟩
  case round =>
    clear HZ2 HB0
    clear x0
    obtain ⟨i, G, hs, hiln, rfl, hea, hrun⟩ := hrel
    have HR := Lib.hid hrun
    have HED := Lib.hid hea
    obtain ⟨vA, vcap, rfl, hvc, hmx, hcells⟩ := hrun.own.form
    have HLB : Hid (AtB wr LA ln xs) := Lib.hid (AtB.later HL hrun.below)
    have HLT := Lib.hid (And.intro hrun.lt hrun.size)
    clear hrun hea hmx hcells
    have hln40 := HLN.out
    by_cases hlt : i < ln
    · have d1 : decide ((i : Int) < (ln : Int)) = true := by rw [decide_eq_true_iff]; omega
      have d1' : decide (i < ln) = true := by rw [decide_eq_true_iff]; omega
      obtain ⟨lb, lo, rfl, hlb, hlc⟩ := HLB.out.2.2.2 (by omega)
      have hx := hlc i hlt
      have hxb : xs.getD i 0 < 256 := by
        have h1 := HL.out.2.1
        have h2 := HL.out.1
        rw [List.getD_eq_getElem?_getD, List.getElem?_eq_getElem (by omega)]
        exact h1 _ (List.getElem_mem _)
      generalize xs.getD i 0 = x at hx hxb
      have i0 : (0 : Int) ≤ (i : Int) := by omega
      have i1 : (i : Int) < (ln : Int) := by omega
      clear hlc
      generalize hk : hs.length = k at *
      have HKL := Lib.hid hk
      clear hk
      obtain ⟨me, hmx⟩ : ∃ me, x / 8 % 2 = me := ⟨_, rfl⟩
      have hme : me < 2 := by omega
      have qme : (x : Int) / 8 % 2 = (me : Int) := by omega
      clear hmx
      go_upto_region 12 with fail
      try rw [qme]
      clear qme
      go_wp2_with fail
      (with_reducible refine (directE_at b0 me _).mono ?_)
      rintro e w8 ⟨p0, p1, rfl, hv0, hv1, hp0, hp1, hb8⟩
      have HNP : Hid (p0 ≠ b0 ∧ p1 ≠ b0) := Lib.hid ⟨by have := HLT.out; omega, by have := HLT.out; omega⟩
      have HV0 := Lib.hid hv0
      have HV1 := Lib.hid hv1
      have HR8 := Lib.hid (HR.out.later hb8)
      have hx8 := (hb8.cell (p := ⟨lb, lo + i, none⟩) hlb).trans hx
      have hlb8 : lb < w8.heap.size := Nat.lt_of_lt_of_le hlb hb8.size
      have hlne : ¬ (lb = w8.heap.size) := by omega
      have hlne1 : ¬ (lb = w8.heap.size + 1) := by omega
      clear HR hx hv0 hv1 hp0 hp1 hb8 hlb HLB HLT
      have HR := HR8
      have hx := hx8
      clear HR8 hx8
      rcases (show x % 6 = 0 ∨ x % 6 = 1 ∨ x % 6 = 2 ∨ x % 6 = 3 ∨ x % 6 = 4 ∨ x % 6 = 5 by omega) with h6 | h6 | h6 | h6 | h6 | h6
      · have hx6 : (x : Int) % 6 = 0 := by omega
        clear h6
        go_upto_region 14 with fail
        refine gen_w (P := fun W => Code.wp _ _ _ _ W) (fun z => RunX w b0 b1 B0 c n r (.slice vA k vcap) hs [(w8.heap.size + 1, [.int .i64 3, .int .i64 0, .int .i64 0, .int .u64 0])] G G z ∧ VarAt z p0 [.pointer (some ⟨b0, 0, none⟩)] ∧ VarAt z p1 [.int .i64 (me : Int)] ∧ w8.heap.size + 1 < z.heap.size) ⟨HR.out.new (below_pair _ _ _) (VarAt.made1 _ _ _ _) (Nat.le_succ _), HV0.out.below (below_pair _ _ _), HV1.out.below (below_pair _ _ _), by simp⟩ ?_
        rintro z ⟨hz, hz0, hz1, hz2⟩
        have HZ := Lib.hid hz
        have HQ0 := Lib.hid hz0
        have HQ1 := Lib.hid hz1
        have HW8 := Lib.hid (And.intro HV0.out.1 HV1.out.1)
        have a0 := (HZ.out.vars (w8.heap.size + 1, [.int .i64 3, .int .i64 0, .int .i64 0, .int .u64 0]) (by simp)).1.2.1 0 _ rfl
        clear hz hz0 hz1 HR HV0 HV1 hx hlb8 hlne hlne1
        go_upto_region 17 with fail
        clear a0
        refine gen_w (P := fun W => Code.wp _ _ _ _ W) (fun y => RunX w b0 b1 B0 c n r (.slice vA k vcap) hs [(z.heap.size, [.int .i64 0, .bool false, .int .i64 0, .int .u64 0, .slice none 0 0]), (w8.heap.size + 1, [.int .i64 3, .int .i64 0, .int .i64 0, .int .u64 0])] G G y ∧ VarAt y p0 [.pointer (some ⟨b0, 0, none⟩)] ∧ VarAt y p1 [.int .i64 (me : Int)]) ⟨HZ.out.new (al_below _ _) (VarAt.made _ _ _) (Nat.le_refl _), HQ0.out.below (al_below _ _), HQ1.out.below (al_below _ _)⟩ ?_
        rintro y ⟨hy, hy0, hy1⟩
        have HY := Lib.hid hy
        have HP0 := Lib.hid hy0
        have HP1 := Lib.hid hy1
        have HFA : Hid ((p0 < w8.heap.size + 1 ∧ p1 < w8.heap.size + 1) ∧ w8.heap.size + 1 < z.heap.size) := Lib.hid ⟨⟨Nat.lt_succ_of_lt HW8.out.1, Nat.lt_succ_of_lt HW8.out.2⟩, hz2⟩
        clear hy hy0 hy1 HZ HQ0 HQ1 HW8 hz2
        generalize z.heap.size = bo at *
        generalize w8.heap.size + 1 = bp at *
        have a0 := (HY.out.vars (bp, [.int .i64 3, .int .i64 0, .int .i64 0, .int .u64 0]) (by simp)).1.2.1 0 _ rfl
        obtain ⟨G5, ho, hed⟩ := HED.out.pin hme
        have HED2 := Lib.hid hed
        clear hed
        have HPD : Calls Try.prog 21 #[dirW p0 p1, .int .i64 (me : Int)] y (fun e w' => e = .returned (.tuple #[]) ∧ RunX w b0 b1 B0 c n r (.slice vA k vcap) hs [(bo, [.int .i64 0, .bool false, .int .i64 0, .int .u64 0, .slice none 0 0]), (bp, [.int .i64 3, .int .i64 0, .int .i64 0, .int .u64 0])] G5 G w') := by
          have hcc : c ≤ 65536 := by have := HCK.out; omega
          have hrr := HY.out
          have hnn := HN.out
          rw [← hnn] at hrr ⊢
          exact pinD hcc hrr HP0.out HP1.out HNP.out.1 HNP.out.2 hme ho
        go_wp2_with fail
        (with_reducible refine HPD.mono ?_)
        clear HPD a0 HP0 HP1 HY
        rintro e w3 ⟨rfl, hr3⟩
        have HX := Lib.hid hr3
        clear hr3
        have HAL : ∀ (A : Option Addr) (ka : Nat) (R : Option Addr) (ra : Nat) (S : Option Addr) (sa : Nat) (w : World), Hid (AtW w A n G) → Hid (StmsAt w R 2 (zerosS 2)) → Hid (StmsAt w S 2 (zerosS 2)) →
            Calls Try.prog 16 #[.agg #[.int .i64 2, .int .i64 (c : Int), .slice A n ka, .int .u64 (r : Int), .slice R 2 ra, .slice S 2 sa], .int .i64 (me : Int), .agg #[.int .i64 3, .int .i64 0, .int .i64 0, .int .u64 0], .int .i64 300] w (AloneEndE w 2 (c : Int) A n r R S 2 G5 (zerosS 2) (zerosS 2) 0 false 0) := by
          have h := HOPS me 3 0 0 0 false 0 G G5 300 300 hme ho (Nat.le_refl _) (by decide) (by decide) rfl rfl rfl
          rw [HN.out] at h
          exact h
        have HVO := Lib.hid (HX.out.vars (bo, [.int .i64 0, .bool false, .int .i64 0, .int .u64 0, .slice none 0 0]) (by simp)).1
        have HVP := Lib.hid (HX.out.vars (bp, [.int .i64 3, .int .i64 0, .int .i64 0, .int .u64 0]) (by simp)).1
        have HX0 := Lib.hid (HX.out.less (L' := []) (fun p hp => by cases hp))
        have HOLD := Lib.hid HX0.out.old
        have HWD := Lib.hid HX0.out.run
        have BB := Lib.hid HX0.out.below
        have hltx := HX0.out.lt
        have hszx := HX0.out.size
        have g0 := HVP.out.2.1 0 _ rfl
        have g1 := HVP.out.2.1 1 _ rfl
        have g2 := HVP.out.2.1 2 _ rfl
        have g3 := HVP.out.2.1 3 _ rfl
        clear HX ho
        obtain ⟨A1, ka1, R1, ra1, S1, sa1, hW, o0, o1, o2, _⟩ := HWD.out
        have W1 := Lib.hid hW
        have O1 := Lib.hid (And.intro o0 (And.intro o1 o2))
        obtain ⟨c0, c1, c2, c3, c4, c5⟩ := hW.cells
        have HGlt := Lib.hid hW.1.1
        clear hW o0 o1 o2
        clear HWD
        go_wp2_with fail
        (with_reducible refine (HAL A1 ka1 R1 ra1 S1 sa1 _ W1.out.gA W1.out.g0 W1.out.g1).mono ?_)
        clear HAL c0 c1 c2 c3 c4 c5 g0 g1 g2 g3 HVP
        rintro e w5 ⟨A5, ka5, R5, ra5, S5, sa5, rfl, ha, hs0, hs1, hb, hP⟩
        go_upto_region 35 with fail
        have hbx : Below w5.heap.size w5 ((w5.alloc (.cells #[.int .i64 2, .int .i64 (c : Int), .slice A5 n ka5, .int .u64 (r : Int), .slice R5 2 ra5, .slice S5 2 sa5] 51)).alloc (.cells #[.int .i64 0, .bool false, .int .i64 0, .int .u64 0, .slice none 0 0] 37)) := below_pair _ _ _
        have W5 := Lib.hid (WdAt.made (t := 2) (c := (c : Int)) (k := ka5) (r := r) (ra := ra5) (sa := sa5) w5 (.cells #[.int .i64 0, .bool false, .int .i64 0, .int .u64 0, .slice none 0 0] 37) 51 ha hs0 hs1)
        have O5 := Lib.hid (VarAt.made1 w5 (.cells #[.int .i64 2, .int .i64 (c : Int), .slice A5 n ka5, .int .u64 (r : Int), .slice R5 2 ra5, .slice S5 2 sa5] 51) #[.int .i64 0, .bool false, .int .i64 0, .int .u64 0, .slice none 0 0] 37)
        have hbn := hb.trans (hbx.mono hb.size)
        have HS5 := Lib.hid (And.intro hs0 hs1)
        have HX5 := Lib.hid hbx
        have HB5 := Lib.hid hb
        have HP5 := Lib.hid hP
        generalize (w5.alloc (.cells #[.int .i64 2, .int .i64 (c : Int), .slice A5 n ka5, .int .u64 (r : Int), .slice R5 2 ra5, .slice S5 2 sa5] 51)).alloc (.cells #[.int .i64 0, .bool false, .int .i64 0, .int .u64 0, .slice none 0 0] 37) = x5 at hbx hbn W5 O5 HX5 ⊢
        have HVOn := Lib.hid (HVO.out.below hbn); clear HVO; have HVO := HVOn; clear HVOn
        have HX0n := Lib.hid (HX0.out.later hbn); clear HX0; have HX0 := HX0n; clear HX0n
        have BBn := Lib.hid (BB.out.trans (hbn.mono BB.out.size)); clear BB; have BB := BBn; clear BBn
        clear ha hs0 hs1 hb hP hbx hbn
        obtain ⟨_, ⟨p1', p2', p3', p4', p5'⟩, _⟩ := O5.out.five
        obtain ⟨_, ⟨v1', v2', v3', v4', v5'⟩, _⟩ := HVO.out.five
        have OF5 : Hid (OffW (NtX b0 b1 (.slice vA k vcap) []) A5 n ∧ OffS (NtX b0 b1 (.slice vA k vcap) []) x5 R5 2 ∧ OffS (NtX b0 b1 (.slice vA k vcap) []) x5 S5 2) := Lib.hid (by
          obtain ⟨q0, q1, q2⟩ := HP5.out (NtX b0 b1 (.slice vA k vcap) []) ⟨HOLD.out, O1.out.1, O1.out.2.1, O1.out.2.2⟩
          exact ⟨q0, q1.later HS5.out.1 HX5.out, q2.later HS5.out.2 HX5.out⟩)
        have hnb : ¬ (w5.heap.size = b1) := by have := HB5.out.size; omega
        clear HP5 HS5 HX5 HB5 W1 O1 HGlt HOLD
        go_wp2_with fail
        (with_reducible refine (outsI_same _ _ _ _ _).mono ?_)
        rintro e w9 ⟨rfl, hb9⟩
        have W9 := Lib.hid (W5.out.later hb9)
        have OF9 := Lib.hid (And.intro OF5.out.1 (And.intro (OF5.out.2.1.later W5.out.2.2.1 hb9) (OF5.out.2.2.later W5.out.2.2.2 hb9)))
        have HX9 := Lib.hid (HX0.out.later hb9)
        clear W5 OF5 HX0 O5 HVO hb9 BB p1' p2' p3' p4' p5' v1' v2' v3' v4' v5'
        obtain ⟨_, ⟨e0, e1, e2, e3, e4, e5⟩, _⟩ := W9.out.1.six
        obtain ⟨A8, ka8, R8, ra8, S8, sa8, hW8, _⟩ := HX9.out.run
        obtain ⟨zx, ⟨y0, y1, y2, y3, y4, y5⟩, f0, f1, f2, f3, f4, f5⟩ := hW8.1.six
        have HOWN := Lib.hid HX9.out.own
        have hbb := HX9.out.below
        have nb' : ¬ (b1 = w5.heap.size) := fun e => hnb e.symm
        clear hW8
        go_wp2_with fail
        go_roundw
        case rel => exact ⟨i + 1, G5, hs, by omega, by go_num, HED2.out, (HX9.out.put (by repeat (first | with_reducible exact Keep.refl _ _ | with_reducible refine Keep.drew ?_ | with_reducible refine Keep.alloc ?_ _ | (with_reducible refine Keep.set ?_ _ _ _ (ntx1 _ _ _ _ _)))) (fun b vs hne h => (((((h.apart _ _ (Ne.symm hne)).apart _ _ (Ne.symm hne)).apart _ _ (Ne.symm hne)).apart _ _ (Ne.symm hne)).apart _ _ (Ne.symm hne)).apart _ _ (Ne.symm hne)) (by repeat (first | with_reducible assumption | with_reducible refine Below.drew ?_ | with_reducible refine below_al ?_ | (with_reducible refine below_set1 (by omega) _ ?_))) (by repeat (first | with_reducible exact HOWN.out | (with_reducible refine OwnI.apart ?_ _ _ _ (by omega)))) ⟨A5, ka5, R5, ra5, S5, sa5, ⟨VarAt.of6 (by simp; omega) (by go_simp) (by go_simp) (by go_simp) (by go_simp) (by go_simp) (by go_simp) (by go_simp) (by go_simp) (by go_simp) (by go_simp) (by go_simp) (by go_simp), W9.out.2.1.keep (Q := NtX b0 b1 (.slice vA k vcap) []) (by repeat (first | with_reducible exact Keep.refl _ _ | with_reducible refine Keep.drew ?_ | with_reducible refine Keep.alloc ?_ _ | (with_reducible refine Keep.set ?_ _ _ _ (ntx1 _ _ _ _ _)))) OF9.out.1, W9.out.2.2.1.keep (Q := NtX b0 b1 (.slice vA k vcap) []) (by repeat (first | with_reducible exact Keep.refl _ _ | with_reducible refine Keep.drew ?_ | with_reducible refine Keep.alloc ?_ _ | (with_reducible refine Keep.set ?_ _ _ _ (ntx1 _ _ _ _ _)))) OF9.out.2.1, W9.out.2.2.2.keep (Q := NtX b0 b1 (.slice vA k vcap) []) (by repeat (first | with_reducible exact Keep.refl _ _ | with_reducible refine Keep.drew ?_ | with_reducible refine Keep.alloc ?_ _ | (with_reducible refine Keep.set ?_ _ _ _ (ntx1 _ _ _ _ _)))) OF9.out.2.2⟩, OF9.out.1, OF9.out.2.1.keep W9.out.2.2.1 (Q := NtX b0 b1 (.slice vA k vcap) []) (by repeat (first | with_reducible exact Keep.refl _ _ | with_reducible refine Keep.drew ?_ | with_reducible refine Keep.alloc ?_ _ | (with_reducible refine Keep.set ?_ _ _ _ (ntx1 _ _ _ _ _)))) OF9.out.2.1, OF9.out.2.2.keep W9.out.2.2.2 (Q := NtX b0 b1 (.slice vA k vcap) []) (by repeat (first | with_reducible exact Keep.refl _ _ | with_reducible refine Keep.drew ?_ | with_reducible refine Keep.alloc ?_ _ | (with_reducible refine Keep.set ?_ _ _ _ (ntx1 _ _ _ _ _)))) OF9.out.2.2, fun P h => h.elim⟩)⟩
        case measure => simp [intOf]; omega
      · have hx6 : (x : Int) % 6 = 1 := by omega
        clear h6
        go_upto_region 14 with fail
        refine gen_w (P := fun W => Code.wp _ _ _ _ W) (fun z => RunX w b0 b1 B0 c n r (.slice vA k vcap) hs [(w8.heap.size + 1, [.int .i64 4, .int .i64 0, .int .i64 0, .int .u64 0])] G G z ∧ VarAt z p0 [.pointer (some ⟨b0, 0, none⟩)] ∧ VarAt z p1 [.int .i64 (me : Int)] ∧ w8.heap.size + 1 < z.heap.size) ⟨HR.out.new (below_pair _ _ _) (VarAt.made1 _ _ _ _) (Nat.le_succ _), HV0.out.below (below_pair _ _ _), HV1.out.below (below_pair _ _ _), by simp⟩ ?_
        rintro z ⟨hz, hz0, hz1, hz2⟩
        have HZ := Lib.hid hz
        have HQ0 := Lib.hid hz0
        have HQ1 := Lib.hid hz1
        have HW8 := Lib.hid (And.intro HV0.out.1 HV1.out.1)
        have a0 := (HZ.out.vars (w8.heap.size + 1, [.int .i64 4, .int .i64 0, .int .i64 0, .int .u64 0]) (by simp)).1.2.1 0 _ rfl
        clear hz hz0 hz1 HR HV0 HV1 hx hlb8 hlne hlne1
        go_upto_region 17 with fail
        clear a0
        refine gen_w (P := fun W => Code.wp _ _ _ _ W) (fun y => RunX w b0 b1 B0 c n r (.slice vA k vcap) hs [(z.heap.size, [.int .i64 0, .bool false, .int .i64 0, .int .u64 0, .slice none 0 0]), (w8.heap.size + 1, [.int .i64 4, .int .i64 0, .int .i64 0, .int .u64 0])] G G y ∧ VarAt y p0 [.pointer (some ⟨b0, 0, none⟩)] ∧ VarAt y p1 [.int .i64 (me : Int)]) ⟨HZ.out.new (al_below _ _) (VarAt.made _ _ _) (Nat.le_refl _), HQ0.out.below (al_below _ _), HQ1.out.below (al_below _ _)⟩ ?_
        rintro y ⟨hy, hy0, hy1⟩
        have HY := Lib.hid hy
        have HP0 := Lib.hid hy0
        have HP1 := Lib.hid hy1
        have HFA : Hid ((p0 < w8.heap.size + 1 ∧ p1 < w8.heap.size + 1) ∧ w8.heap.size + 1 < z.heap.size) := Lib.hid ⟨⟨Nat.lt_succ_of_lt HW8.out.1, Nat.lt_succ_of_lt HW8.out.2⟩, hz2⟩
        clear hy hy0 hy1 HZ HQ0 HQ1 HW8 hz2
        generalize z.heap.size = bo at *
        generalize w8.heap.size + 1 = bp at *
        have a0 := (HY.out.vars (bp, [.int .i64 4, .int .i64 0, .int .i64 0, .int .u64 0]) (by simp)).1.2.1 0 _ rfl
        obtain ⟨G5, ho, hed⟩ := HED.out.unpin hme
        have HED2 := Lib.hid hed
        clear hed
        have HPD : Calls Try.prog 22 #[dirW p0 p1, .int .i64 (me : Int)] y (fun e w' => e = .returned (.tuple #[]) ∧ RunX w b0 b1 B0 c n r (.slice vA k vcap) hs [(bo, [.int .i64 0, .bool false, .int .i64 0, .int .u64 0, .slice none 0 0]), (bp, [.int .i64 4, .int .i64 0, .int .i64 0, .int .u64 0])] G5 G w') := by
          have hcc : c ≤ 65536 := by have := HCK.out; omega
          have hrr := HY.out
          have hnn := HN.out
          rw [← hnn] at hrr ⊢
          exact unpinD hcc hrr HP0.out HP1.out HNP.out.1 HNP.out.2 hme ho
        go_wp2_with fail
        (with_reducible refine HPD.mono ?_)
        clear HPD a0 HP0 HP1 HY
        rintro e w3 ⟨rfl, hr3⟩
        have HX := Lib.hid hr3
        clear hr3
        have HAL : ∀ (A : Option Addr) (ka : Nat) (R : Option Addr) (ra : Nat) (S : Option Addr) (sa : Nat) (w : World), Hid (AtW w A n G) → Hid (StmsAt w R 2 (zerosS 2)) → Hid (StmsAt w S 2 (zerosS 2)) →
            Calls Try.prog 16 #[.agg #[.int .i64 2, .int .i64 (c : Int), .slice A n ka, .int .u64 (r : Int), .slice R 2 ra, .slice S 2 sa], .int .i64 (me : Int), .agg #[.int .i64 4, .int .i64 0, .int .i64 0, .int .u64 0], .int .i64 300] w (AloneEndE w 2 (c : Int) A n r R S 2 G5 (zerosS 2) (zerosS 2) 0 false 0) := by
          have h := HOPS me 4 0 0 0 false 0 G G5 300 300 hme ho (Nat.le_refl _) (by decide) (by decide) rfl rfl rfl
          rw [HN.out] at h
          exact h
        have HVO := Lib.hid (HX.out.vars (bo, [.int .i64 0, .bool false, .int .i64 0, .int .u64 0, .slice none 0 0]) (by simp)).1
        have HVP := Lib.hid (HX.out.vars (bp, [.int .i64 4, .int .i64 0, .int .i64 0, .int .u64 0]) (by simp)).1
        have HX0 := Lib.hid (HX.out.less (L' := []) (fun p hp => by cases hp))
        have HOLD := Lib.hid HX0.out.old
        have HWD := Lib.hid HX0.out.run
        have BB := Lib.hid HX0.out.below
        have hltx := HX0.out.lt
        have hszx := HX0.out.size
        have g0 := HVP.out.2.1 0 _ rfl
        have g1 := HVP.out.2.1 1 _ rfl
        have g2 := HVP.out.2.1 2 _ rfl
        have g3 := HVP.out.2.1 3 _ rfl
        clear HX ho
        obtain ⟨A1, ka1, R1, ra1, S1, sa1, hW, o0, o1, o2, _⟩ := HWD.out
        have W1 := Lib.hid hW
        have O1 := Lib.hid (And.intro o0 (And.intro o1 o2))
        obtain ⟨c0, c1, c2, c3, c4, c5⟩ := hW.cells
        have HGlt := Lib.hid hW.1.1
        clear hW o0 o1 o2
        clear HWD
        go_wp2_with fail
        (with_reducible refine (HAL A1 ka1 R1 ra1 S1 sa1 _ W1.out.gA W1.out.g0 W1.out.g1).mono ?_)
        clear HAL c0 c1 c2 c3 c4 c5 g0 g1 g2 g3 HVP
        rintro e w5 ⟨A5, ka5, R5, ra5, S5, sa5, rfl, ha, hs0, hs1, hb, hP⟩
        go_upto_region 35 with fail
        have hbx : Below w5.heap.size w5 ((w5.alloc (.cells #[.int .i64 2, .int .i64 (c : Int), .slice A5 n ka5, .int .u64 (r : Int), .slice R5 2 ra5, .slice S5 2 sa5] 51)).alloc (.cells #[.int .i64 0, .bool false, .int .i64 0, .int .u64 0, .slice none 0 0] 37)) := below_pair _ _ _
        have W5 := Lib.hid (WdAt.made (t := 2) (c := (c : Int)) (k := ka5) (r := r) (ra := ra5) (sa := sa5) w5 (.cells #[.int .i64 0, .bool false, .int .i64 0, .int .u64 0, .slice none 0 0] 37) 51 ha hs0 hs1)
        have O5 := Lib.hid (VarAt.made1 w5 (.cells #[.int .i64 2, .int .i64 (c : Int), .slice A5 n ka5, .int .u64 (r : Int), .slice R5 2 ra5, .slice S5 2 sa5] 51) #[.int .i64 0, .bool false, .int .i64 0, .int .u64 0, .slice none 0 0] 37)
        have hbn := hb.trans (hbx.mono hb.size)
        have HS5 := Lib.hid (And.intro hs0 hs1)
        have HX5 := Lib.hid hbx
        have HB5 := Lib.hid hb
        have HP5 := Lib.hid hP
        generalize (w5.alloc (.cells #[.int .i64 2, .int .i64 (c : Int), .slice A5 n ka5, .int .u64 (r : Int), .slice R5 2 ra5, .slice S5 2 sa5] 51)).alloc (.cells #[.int .i64 0, .bool false, .int .i64 0, .int .u64 0, .slice none 0 0] 37) = x5 at hbx hbn W5 O5 HX5 ⊢
        have HVOn := Lib.hid (HVO.out.below hbn); clear HVO; have HVO := HVOn; clear HVOn
        have HX0n := Lib.hid (HX0.out.later hbn); clear HX0; have HX0 := HX0n; clear HX0n
        have BBn := Lib.hid (BB.out.trans (hbn.mono BB.out.size)); clear BB; have BB := BBn; clear BBn
        clear ha hs0 hs1 hb hP hbx hbn
        obtain ⟨_, ⟨p1', p2', p3', p4', p5'⟩, _⟩ := O5.out.five
        obtain ⟨_, ⟨v1', v2', v3', v4', v5'⟩, _⟩ := HVO.out.five
        have OF5 : Hid (OffW (NtX b0 b1 (.slice vA k vcap) []) A5 n ∧ OffS (NtX b0 b1 (.slice vA k vcap) []) x5 R5 2 ∧ OffS (NtX b0 b1 (.slice vA k vcap) []) x5 S5 2) := Lib.hid (by
          obtain ⟨q0, q1, q2⟩ := HP5.out (NtX b0 b1 (.slice vA k vcap) []) ⟨HOLD.out, O1.out.1, O1.out.2.1, O1.out.2.2⟩
          exact ⟨q0, q1.later HS5.out.1 HX5.out, q2.later HS5.out.2 HX5.out⟩)
        have hnb : ¬ (w5.heap.size = b1) := by have := HB5.out.size; omega
        clear HP5 HS5 HX5 HB5 W1 O1 HGlt HOLD
        go_wp2_with fail
        (with_reducible refine (outsI_same _ _ _ _ _).mono ?_)
        rintro e w9 ⟨rfl, hb9⟩
        have W9 := Lib.hid (W5.out.later hb9)
        have OF9 := Lib.hid (And.intro OF5.out.1 (And.intro (OF5.out.2.1.later W5.out.2.2.1 hb9) (OF5.out.2.2.later W5.out.2.2.2 hb9)))
        have HX9 := Lib.hid (HX0.out.later hb9)
        clear W5 OF5 HX0 O5 HVO hb9 BB p1' p2' p3' p4' p5' v1' v2' v3' v4' v5'
        obtain ⟨_, ⟨e0, e1, e2, e3, e4, e5⟩, _⟩ := W9.out.1.six
        obtain ⟨A8, ka8, R8, ra8, S8, sa8, hW8, _⟩ := HX9.out.run
        obtain ⟨zx, ⟨y0, y1, y2, y3, y4, y5⟩, f0, f1, f2, f3, f4, f5⟩ := hW8.1.six
        have HOWN := Lib.hid HX9.out.own
        have hbb := HX9.out.below
        have nb' : ¬ (b1 = w5.heap.size) := fun e => hnb e.symm
        clear hW8
        go_wp2_with fail
        go_roundw
        case rel => exact ⟨i + 1, G5, hs, by omega, by go_num, HED2.out, (HX9.out.put (by repeat (first | with_reducible exact Keep.refl _ _ | with_reducible refine Keep.drew ?_ | with_reducible refine Keep.alloc ?_ _ | (with_reducible refine Keep.set ?_ _ _ _ (ntx1 _ _ _ _ _)))) (fun b vs hne h => (((((h.apart _ _ (Ne.symm hne)).apart _ _ (Ne.symm hne)).apart _ _ (Ne.symm hne)).apart _ _ (Ne.symm hne)).apart _ _ (Ne.symm hne)).apart _ _ (Ne.symm hne)) (by repeat (first | with_reducible assumption | with_reducible refine Below.drew ?_ | with_reducible refine below_al ?_ | (with_reducible refine below_set1 (by omega) _ ?_))) (by repeat (first | with_reducible exact HOWN.out | (with_reducible refine OwnI.apart ?_ _ _ _ (by omega)))) ⟨A5, ka5, R5, ra5, S5, sa5, ⟨VarAt.of6 (by simp; omega) (by go_simp) (by go_simp) (by go_simp) (by go_simp) (by go_simp) (by go_simp) (by go_simp) (by go_simp) (by go_simp) (by go_simp) (by go_simp) (by go_simp), W9.out.2.1.keep (Q := NtX b0 b1 (.slice vA k vcap) []) (by repeat (first | with_reducible exact Keep.refl _ _ | with_reducible refine Keep.drew ?_ | with_reducible refine Keep.alloc ?_ _ | (with_reducible refine Keep.set ?_ _ _ _ (ntx1 _ _ _ _ _)))) OF9.out.1, W9.out.2.2.1.keep (Q := NtX b0 b1 (.slice vA k vcap) []) (by repeat (first | with_reducible exact Keep.refl _ _ | with_reducible refine Keep.drew ?_ | with_reducible refine Keep.alloc ?_ _ | (with_reducible refine Keep.set ?_ _ _ _ (ntx1 _ _ _ _ _)))) OF9.out.2.1, W9.out.2.2.2.keep (Q := NtX b0 b1 (.slice vA k vcap) []) (by repeat (first | with_reducible exact Keep.refl _ _ | with_reducible refine Keep.drew ?_ | with_reducible refine Keep.alloc ?_ _ | (with_reducible refine Keep.set ?_ _ _ _ (ntx1 _ _ _ _ _)))) OF9.out.2.2⟩, OF9.out.1, OF9.out.2.1.keep W9.out.2.2.1 (Q := NtX b0 b1 (.slice vA k vcap) []) (by repeat (first | with_reducible exact Keep.refl _ _ | with_reducible refine Keep.drew ?_ | with_reducible refine Keep.alloc ?_ _ | (with_reducible refine Keep.set ?_ _ _ _ (ntx1 _ _ _ _ _)))) OF9.out.2.1, OF9.out.2.2.keep W9.out.2.2.2 (Q := NtX b0 b1 (.slice vA k vcap) []) (by repeat (first | with_reducible exact Keep.refl _ _ | with_reducible refine Keep.drew ?_ | with_reducible refine Keep.alloc ?_ _ | (with_reducible refine Keep.set ?_ _ _ _ (ntx1 _ _ _ _ _)))) OF9.out.2.2, fun P h => h.elim⟩)⟩
        case measure => simp [intOf]; omega
      · have hx6 : (x : Int) % 6 = 2 := by omega
        clear h6
        go_upto_region 14 with fail
        refine gen_w (P := fun W => Code.wp _ _ _ _ W) (fun z => RunX w b0 b1 B0 c n r (.slice vA k vcap) hs [(w8.heap.size + 1, [.int .i64 6, .int .i64 0, .int .i64 0, .int .u64 0])] G G z ∧ VarAt z p0 [.pointer (some ⟨b0, 0, none⟩)] ∧ VarAt z p1 [.int .i64 (me : Int)] ∧ w8.heap.size + 1 < z.heap.size) ⟨HR.out.new (below_pair _ _ _) (VarAt.made1 _ _ _ _) (Nat.le_succ _), HV0.out.below (below_pair _ _ _), HV1.out.below (below_pair _ _ _), by simp⟩ ?_
        rintro z ⟨hz, hz0, hz1, hz2⟩
        have HZ := Lib.hid hz
        have HQ0 := Lib.hid hz0
        have HQ1 := Lib.hid hz1
        have HW8 := Lib.hid (And.intro HV0.out.1 HV1.out.1)
        have a0 := (HZ.out.vars (w8.heap.size + 1, [.int .i64 6, .int .i64 0, .int .i64 0, .int .u64 0]) (by simp)).1.2.1 0 _ rfl
        clear hz hz0 hz1 HR HV0 HV1 hx hlb8 hlne hlne1
        go_upto_region 17 with fail
        clear a0
        refine gen_w (P := fun W => Code.wp _ _ _ _ W) (fun y => RunX w b0 b1 B0 c n r (.slice vA k vcap) hs [(z.heap.size, [.int .i64 0, .bool false, .int .i64 0, .int .u64 0, .slice none 0 0]), (w8.heap.size + 1, [.int .i64 6, .int .i64 0, .int .i64 0, .int .u64 0])] G G y ∧ VarAt y p0 [.pointer (some ⟨b0, 0, none⟩)] ∧ VarAt y p1 [.int .i64 (me : Int)]) ⟨HZ.out.new (al_below _ _) (VarAt.made _ _ _) (Nat.le_refl _), HQ0.out.below (al_below _ _), HQ1.out.below (al_below _ _)⟩ ?_
        rintro y ⟨hy, hy0, hy1⟩
        have HY := Lib.hid hy
        have HP0 := Lib.hid hy0
        have HP1 := Lib.hid hy1
        have HFA : Hid ((p0 < w8.heap.size + 1 ∧ p1 < w8.heap.size + 1) ∧ w8.heap.size + 1 < z.heap.size) := Lib.hid ⟨⟨Nat.lt_succ_of_lt HW8.out.1, Nat.lt_succ_of_lt HW8.out.2⟩, hz2⟩
        clear hy hy0 hy1 HZ HQ0 HQ1 HW8 hz2
        generalize z.heap.size = bo at *
        generalize w8.heap.size + 1 = bp at *
        have a0 := (HY.out.vars (bp, [.int .i64 6, .int .i64 0, .int .i64 0, .int .u64 0]) (by simp)).1.2.1 0 _ rfl
        obtain ⟨a, G5, ho, hh⟩ := HED.out.alloc (by have := HCK.out; omega) hme
        have HPD : Calls Try.prog 23 #[dirW p0 p1, .int .i64 2, .int .i64 (me : Int)] y (fun e w' => e = .returned (.int .i64 (a : Int)) ∧ RunX w b0 b1 B0 c n r (.slice vA k vcap) hs [(bo, [.int .i64 0, .bool false, .int .i64 0, .int .u64 0, .slice none 0 0]), (bp, [.int .i64 6, .int .i64 0, .int .i64 0, .int .u64 0])] G5 G w') := by
          have hcc : c ≤ 65536 := by have := HCK.out; omega
          have hrr := HY.out
          have hnn := HN.out
          rw [← hnn] at hrr ⊢
          exact allocD hcc hrr HP0.out HP1.out HNP.out.1 HNP.out.2 hme ho
        go_wp2_with fail
        (with_reducible refine HPD.mono ?_)
        clear HPD a0 HP0 HP1 HY
        rintro e w3 ⟨rfl, hr3⟩
        have HX := Lib.hid hr3
        clear hr3
        rcases hh with ⟨rfl, hed⟩ | ⟨ha1, hac, hed⟩
        · have HED2 := Lib.hid hed
          clear hed
          have hfz := (HX.out.vars (bo, [.int .i64 0, .bool false, .int .i64 0, .int .u64 0, .slice none 0 0]) (by simp)).1.2.2 2 (by simp)
          have hcz := (HX.out.vars (bo, [.int .i64 0, .bool false, .int .i64 0, .int .u64 0, .slice none 0 0]) (by simp)).1.2.1 2 _ rfl
          have hbz := (HX.out.vars (bo, [.int .i64 0, .bool false, .int .i64 0, .int .u64 0, .slice none 0 0]) (by simp)).1.1
          go_upto_region 24 with fail
          refine gen_w (P := fun W => Code.wp _ _ _ _ W) (fun z => RunX w b0 b1 B0 c n r (.slice vA k vcap) hs [(bo, [.int .i64 0, .bool false, .int .i64 0, .int .u64 0, .slice none 0 0]), (bp, [.int .i64 6, .int .i64 0, .int .i64 0, .int .u64 0])] G5 G z) (HX.out.set0 2 (.int .i64 0) (by decide) (fun p hp => by simp only [List.mem_singleton] at hp; subst hp; have := HFA.out.2; show bp ≠ bo; omega)) ?_
          rintro z hz
          clear HX hfz hcz hbz
          have HX := Lib.hid hz
          clear hz
          have a2 := (HX.out.vars (bo, [.int .i64 0, .bool false, .int .i64 0, .int .u64 0, .slice none 0 0]) (by simp)).1.2.1 2 _ rfl
          go_upto_region 34 with fail
          clear a2
          have HAL : ∀ (A : Option Addr) (ka : Nat) (R : Option Addr) (ra : Nat) (S : Option Addr) (sa : Nat) (w : World), Hid (AtW w A n G) → Hid (StmsAt w R 2 (zerosS 2)) → Hid (StmsAt w S 2 (zerosS 2)) →
              Calls Try.prog 16 #[.agg #[.int .i64 2, .int .i64 (c : Int), .slice A n ka, .int .u64 (r : Int), .slice R 2 ra, .slice S 2 sa], .int .i64 (me : Int), .agg #[.int .i64 6, .int .i64 0, .int .i64 0, .int .u64 0], .int .i64 300] w (AloneEndE w 2 (c : Int) A n r R S 2 G5 (zerosS 2) (zerosS 2) 0 false 0) := by
            have h := HOPS me 6 0 0 0 false 0 G G5 300 300 hme ho (Nat.le_refl _) (by decide) (by decide) rfl rfl rfl
            rw [HN.out] at h
            exact h
          have HVO := Lib.hid (HX.out.vars (bo, [.int .i64 0, .bool false, .int .i64 0, .int .u64 0, .slice none 0 0]) (by simp)).1
          have HVP := Lib.hid (HX.out.vars (bp, [.int .i64 6, .int .i64 0, .int .i64 0, .int .u64 0]) (by simp)).1
          have HX0 := Lib.hid (HX.out.less (L' := []) (fun p hp => by cases hp))
          have HOLD := Lib.hid HX0.out.old
          have HWD := Lib.hid HX0.out.run
          have BB := Lib.hid HX0.out.below
          have hltx := HX0.out.lt
          have hszx := HX0.out.size
          have g0 := HVP.out.2.1 0 _ rfl
          have g1 := HVP.out.2.1 1 _ rfl
          have g2 := HVP.out.2.1 2 _ rfl
          have g3 := HVP.out.2.1 3 _ rfl
          clear HX ho
          obtain ⟨A1, ka1, R1, ra1, S1, sa1, hW, o0, o1, o2, _⟩ := HWD.out
          have W1 := Lib.hid hW
          have O1 := Lib.hid (And.intro o0 (And.intro o1 o2))
          obtain ⟨c0, c1, c2, c3, c4, c5⟩ := hW.cells
          have HGlt := Lib.hid hW.1.1
          clear hW o0 o1 o2
          clear HWD
          go_wp2_with fail
          (with_reducible refine (HAL A1 ka1 R1 ra1 S1 sa1 _ W1.out.gA W1.out.g0 W1.out.g1).mono ?_)
          clear HAL c0 c1 c2 c3 c4 c5 g0 g1 g2 g3 HVP
          rintro e w5 ⟨A5, ka5, R5, ra5, S5, sa5, rfl, ha, hs0, hs1, hb, hP⟩
          go_upto_region 35 with fail
          have hbx : Below w5.heap.size w5 ((w5.alloc (.cells #[.int .i64 2, .int .i64 (c : Int), .slice A5 n ka5, .int .u64 (r : Int), .slice R5 2 ra5, .slice S5 2 sa5] 51)).alloc (.cells #[.int .i64 0, .bool false, .int .i64 0, .int .u64 0, .slice none 0 0] 37)) := below_pair _ _ _
          have W5 := Lib.hid (WdAt.made (t := 2) (c := (c : Int)) (k := ka5) (r := r) (ra := ra5) (sa := sa5) w5 (.cells #[.int .i64 0, .bool false, .int .i64 0, .int .u64 0, .slice none 0 0] 37) 51 ha hs0 hs1)
          have O5 := Lib.hid (VarAt.made1 w5 (.cells #[.int .i64 2, .int .i64 (c : Int), .slice A5 n ka5, .int .u64 (r : Int), .slice R5 2 ra5, .slice S5 2 sa5] 51) #[.int .i64 0, .bool false, .int .i64 0, .int .u64 0, .slice none 0 0] 37)
          have hbn := hb.trans (hbx.mono hb.size)
          have HS5 := Lib.hid (And.intro hs0 hs1)
          have HX5 := Lib.hid hbx
          have HB5 := Lib.hid hb
          have HP5 := Lib.hid hP
          generalize (w5.alloc (.cells #[.int .i64 2, .int .i64 (c : Int), .slice A5 n ka5, .int .u64 (r : Int), .slice R5 2 ra5, .slice S5 2 sa5] 51)).alloc (.cells #[.int .i64 0, .bool false, .int .i64 0, .int .u64 0, .slice none 0 0] 37) = x5 at hbx hbn W5 O5 HX5 ⊢
          have HVOn := Lib.hid (HVO.out.below hbn); clear HVO; have HVO := HVOn; clear HVOn
          have HX0n := Lib.hid (HX0.out.later hbn); clear HX0; have HX0 := HX0n; clear HX0n
          have BBn := Lib.hid (BB.out.trans (hbn.mono BB.out.size)); clear BB; have BB := BBn; clear BBn
          clear ha hs0 hs1 hb hP hbx hbn
          obtain ⟨_, ⟨p1', p2', p3', p4', p5'⟩, _⟩ := O5.out.five
          obtain ⟨_, ⟨v1', v2', v3', v4', v5'⟩, _⟩ := HVO.out.five
          have OF5 : Hid (OffW (NtX b0 b1 (.slice vA k vcap) []) A5 n ∧ OffS (NtX b0 b1 (.slice vA k vcap) []) x5 R5 2 ∧ OffS (NtX b0 b1 (.slice vA k vcap) []) x5 S5 2) := Lib.hid (by
            obtain ⟨q0, q1, q2⟩ := HP5.out (NtX b0 b1 (.slice vA k vcap) []) ⟨HOLD.out, O1.out.1, O1.out.2.1, O1.out.2.2⟩
            exact ⟨q0, q1.later HS5.out.1 HX5.out, q2.later HS5.out.2 HX5.out⟩)
          have hnb : ¬ (w5.heap.size = b1) := by have := HB5.out.size; omega
          clear HP5 HS5 HX5 HB5 W1 O1 HGlt HOLD
          go_wp2_with fail
          (with_reducible refine (outsI_same _ _ _ _ _).mono ?_)
          rintro e w9 ⟨rfl, hb9⟩
          have W9 := Lib.hid (W5.out.later hb9)
          have OF9 := Lib.hid (And.intro OF5.out.1 (And.intro (OF5.out.2.1.later W5.out.2.2.1 hb9) (OF5.out.2.2.later W5.out.2.2.2 hb9)))
          have HX9 := Lib.hid (HX0.out.later hb9)
          clear W5 OF5 HX0 O5 HVO hb9 BB p1' p2' p3' p4' p5' v1' v2' v3' v4' v5'
          obtain ⟨_, ⟨e0, e1, e2, e3, e4, e5⟩, _⟩ := W9.out.1.six
          obtain ⟨A8, ka8, R8, ra8, S8, sa8, hW8, _⟩ := HX9.out.run
          obtain ⟨zx, ⟨y0, y1, y2, y3, y4, y5⟩, f0, f1, f2, f3, f4, f5⟩ := hW8.1.six
          have HOWN := Lib.hid HX9.out.own
          have hbb := HX9.out.below
          have nb' : ¬ (b1 = w5.heap.size) := fun e => hnb e.symm
          clear hW8
          go_wp2_with fail
          go_roundw
          case rel => exact ⟨i + 1, G5, hs, by omega, by go_num, HED2.out, (HX9.out.put (by repeat (first | with_reducible exact Keep.refl _ _ | with_reducible refine Keep.drew ?_ | with_reducible refine Keep.alloc ?_ _ | (with_reducible refine Keep.set ?_ _ _ _ (ntx1 _ _ _ _ _)))) (fun b vs hne h => (((((h.apart _ _ (Ne.symm hne)).apart _ _ (Ne.symm hne)).apart _ _ (Ne.symm hne)).apart _ _ (Ne.symm hne)).apart _ _ (Ne.symm hne)).apart _ _ (Ne.symm hne)) (by repeat (first | with_reducible assumption | with_reducible refine Below.drew ?_ | with_reducible refine below_al ?_ | (with_reducible refine below_set1 (by omega) _ ?_))) (by repeat (first | with_reducible exact HOWN.out | (with_reducible refine OwnI.apart ?_ _ _ _ (by omega)))) ⟨A5, ka5, R5, ra5, S5, sa5, ⟨VarAt.of6 (by simp; omega) (by go_simp) (by go_simp) (by go_simp) (by go_simp) (by go_simp) (by go_simp) (by go_simp) (by go_simp) (by go_simp) (by go_simp) (by go_simp) (by go_simp), W9.out.2.1.keep (Q := NtX b0 b1 (.slice vA k vcap) []) (by repeat (first | with_reducible exact Keep.refl _ _ | with_reducible refine Keep.drew ?_ | with_reducible refine Keep.alloc ?_ _ | (with_reducible refine Keep.set ?_ _ _ _ (ntx1 _ _ _ _ _)))) OF9.out.1, W9.out.2.2.1.keep (Q := NtX b0 b1 (.slice vA k vcap) []) (by repeat (first | with_reducible exact Keep.refl _ _ | with_reducible refine Keep.drew ?_ | with_reducible refine Keep.alloc ?_ _ | (with_reducible refine Keep.set ?_ _ _ _ (ntx1 _ _ _ _ _)))) OF9.out.2.1, W9.out.2.2.2.keep (Q := NtX b0 b1 (.slice vA k vcap) []) (by repeat (first | with_reducible exact Keep.refl _ _ | with_reducible refine Keep.drew ?_ | with_reducible refine Keep.alloc ?_ _ | (with_reducible refine Keep.set ?_ _ _ _ (ntx1 _ _ _ _ _)))) OF9.out.2.2⟩, OF9.out.1, OF9.out.2.1.keep W9.out.2.2.1 (Q := NtX b0 b1 (.slice vA k vcap) []) (by repeat (first | with_reducible exact Keep.refl _ _ | with_reducible refine Keep.drew ?_ | with_reducible refine Keep.alloc ?_ _ | (with_reducible refine Keep.set ?_ _ _ _ (ntx1 _ _ _ _ _)))) OF9.out.2.1, OF9.out.2.2.keep W9.out.2.2.2 (Q := NtX b0 b1 (.slice vA k vcap) []) (by repeat (first | with_reducible exact Keep.refl _ _ | with_reducible refine Keep.drew ?_ | with_reducible refine Keep.alloc ?_ _ | (with_reducible refine Keep.set ?_ _ _ _ (ntx1 _ _ _ _ _)))) OF9.out.2.2, fun P h => h.elim⟩)⟩
          case measure => simp [intOf]; omega
        · have HED2 := Lib.hid hed
          clear hed
          have da : decide ((0 : Int) < (a : Int)) = true := by rw [decide_eq_true_iff]; omega
          have da' : decide (0 < a) = true := by rw [decide_eq_true_iff]; omega
          have hfz := (HX.out.vars (bo, [.int .i64 0, .bool false, .int .i64 0, .int .u64 0, .slice none 0 0]) (by simp)).1.2.2 2 (by simp)
          have hcz := (HX.out.vars (bo, [.int .i64 0, .bool false, .int .i64 0, .int .u64 0, .slice none 0 0]) (by simp)).1.2.1 2 _ rfl
          have hbz := (HX.out.vars (bo, [.int .i64 0, .bool false, .int .i64 0, .int .u64 0, .slice none 0 0]) (by simp)).1.1
          go_upto_region 24 with fail
          refine gen_w (P := fun W => Code.wp _ _ _ _ W) (fun z => RunX w b0 b1 B0 c n r (.slice vA k vcap) hs [(bo, [.int .i64 0, .bool false, .int .i64 (a : Int), .int .u64 0, .slice none 0 0]), (bp, [.int .i64 6, .int .i64 0, .int .i64 0, .int .u64 0])] G5 G z) (HX.out.set0 2 (.int .i64 (a : Int)) (by decide) (fun p hp => by simp only [List.mem_singleton] at hp; subst hp; have := HFA.out.2; show bp ≠ bo; omega)) ?_
          rintro z hz
          clear HX hfz hcz hbz
          have HX := Lib.hid hz
          clear hz
          have a2 := (HX.out.vars (bo, [.int .i64 0, .bool false, .int .i64 (a : Int), .int .u64 0, .slice none 0 0]) (by simp)).1.2.1 2 _ rfl
          have HM9 : Hid (hs.length ≤ 900000) := Lib.hid (by have := HED.out.le; have := HCK.out; omega)
          have HOA : Hid (∀ o, OwnI (z.alloc o) B0 (.slice vA k vcap) hs) := Lib.hid (fun o => HX.out.own.later (al_below z o))
          have HZ1 : Hid (∀ o, B0 ≤ (z.alloc o).heap.size) := Lib.hid (fun o => Nat.le_trans HX.out.size (al_below z o).size)
          have HNXT : Hid (∀ o v' w', OwnI w' B0 v' (hs ++ [a]) → (z.alloc o).grownBy w' (Value.ownBlock (.slice vA k vcap)) → (v'.ownBlock = (Value.ownBlock (.slice vA k vcap)) ∨ v'.ownBlock = some (z.alloc o).heap.size) → RunX w b0 b1 B0 c n r v' (hs ++ [a]) [(bo, [.int .i64 0, .bool false, .int .i64 (a : Int), .int .u64 0, .slice none 0 0]), (bp, [.int .i64 6, .int .i64 0, .int .i64 0, .int .u64 0])] G5 G w') := Lib.hid (fun o v' w' h1 h2 h3 => (HX.out.later (al_below z o)).next h1 h2 h3)
          clear HX
          go_upto_region 34 with (at_builtin; (refine wpList_appendI (by rfl) (.tmp 88) (.tmp 91) (by rfl) B0 (.slice vA k vcap) hs (by rfl) (HOA.out _) z.heap.size 1 a (by rfl) (by go_simp) HM9.out (HZ1.out _) ?_); (intro v9 w7 hown9 hg9 hv9; have HX := Lib.hid (HNXT.out _ _ _ hown9 hg9 hv9); clear hown9 hg9 hv9 HNXT HOA HZ1 HM9))
          clear a2 da da'
          have HAL : ∀ (A : Option Addr) (ka : Nat) (R : Option Addr) (ra : Nat) (S : Option Addr) (sa : Nat) (w : World), Hid (AtW w A n G) → Hid (StmsAt w R 2 (zerosS 2)) → Hid (StmsAt w S 2 (zerosS 2)) →
              Calls Try.prog 16 #[.agg #[.int .i64 2, .int .i64 (c : Int), .slice A n ka, .int .u64 (r : Int), .slice R 2 ra, .slice S 2 sa], .int .i64 (me : Int), .agg #[.int .i64 6, .int .i64 0, .int .i64 0, .int .u64 0], .int .i64 300] w (AloneEndE w 2 (c : Int) A n r R S 2 G5 (zerosS 2) (zerosS 2) 0 false (a : Int)) := by
            have h := HOPS me 6 0 a 0 false (a : Int) G G5 300 300 hme ho (Nat.le_refl _) (by decide) (by decide) rfl rfl rfl
            rw [HN.out] at h
            exact h
          have HVO := Lib.hid (HX.out.vars (bo, [.int .i64 0, .bool false, .int .i64 (a : Int), .int .u64 0, .slice none 0 0]) (by simp)).1
          have HVP := Lib.hid (HX.out.vars (bp, [.int .i64 6, .int .i64 0, .int .i64 0, .int .u64 0]) (by simp)).1
          have HX0 := Lib.hid (HX.out.less (L' := []) (fun p hp => by cases hp))
          have HOLD := Lib.hid HX0.out.old
          have HWD := Lib.hid HX0.out.run
          have BB := Lib.hid HX0.out.below
          have hltx := HX0.out.lt
          have hszx := HX0.out.size
          have g0 := HVP.out.2.1 0 _ rfl
          have g1 := HVP.out.2.1 1 _ rfl
          have g2 := HVP.out.2.1 2 _ rfl
          have g3 := HVP.out.2.1 3 _ rfl
          clear HX ho
          obtain ⟨A1, ka1, R1, ra1, S1, sa1, hW, o0, o1, o2, _⟩ := HWD.out
          have W1 := Lib.hid hW
          have O1 := Lib.hid (And.intro o0 (And.intro o1 o2))
          obtain ⟨c0, c1, c2, c3, c4, c5⟩ := hW.cells
          have HGlt := Lib.hid hW.1.1
          clear hW o0 o1 o2
          clear HWD
          go_wp2_with fail
          (with_reducible refine (HAL A1 ka1 R1 ra1 S1 sa1 _ W1.out.gA W1.out.g0 W1.out.g1).mono ?_)
          clear HAL c0 c1 c2 c3 c4 c5 g0 g1 g2 g3 HVP
          rintro e w5 ⟨A5, ka5, R5, ra5, S5, sa5, rfl, ha, hs0, hs1, hb, hP⟩
          go_upto_region 35 with fail
          have hbx : Below w5.heap.size w5 ((w5.alloc (.cells #[.int .i64 2, .int .i64 (c : Int), .slice A5 n ka5, .int .u64 (r : Int), .slice R5 2 ra5, .slice S5 2 sa5] 51)).alloc (.cells #[.int .i64 0, .bool false, .int .i64 (a : Int), .int .u64 0, .slice none 0 0] 37)) := below_pair _ _ _
          have W5 := Lib.hid (WdAt.made (t := 2) (c := (c : Int)) (k := ka5) (r := r) (ra := ra5) (sa := sa5) w5 (.cells #[.int .i64 0, .bool false, .int .i64 (a : Int), .int .u64 0, .slice none 0 0] 37) 51 ha hs0 hs1)
          have O5 := Lib.hid (VarAt.made1 w5 (.cells #[.int .i64 2, .int .i64 (c : Int), .slice A5 n ka5, .int .u64 (r : Int), .slice R5 2 ra5, .slice S5 2 sa5] 51) #[.int .i64 0, .bool false, .int .i64 (a : Int), .int .u64 0, .slice none 0 0] 37)
          have hbn := hb.trans (hbx.mono hb.size)
          have HS5 := Lib.hid (And.intro hs0 hs1)
          have HX5 := Lib.hid hbx
          have HB5 := Lib.hid hb
          have HP5 := Lib.hid hP
          generalize (w5.alloc (.cells #[.int .i64 2, .int .i64 (c : Int), .slice A5 n ka5, .int .u64 (r : Int), .slice R5 2 ra5, .slice S5 2 sa5] 51)).alloc (.cells #[.int .i64 0, .bool false, .int .i64 (a : Int), .int .u64 0, .slice none 0 0] 37) = x5 at hbx hbn W5 O5 HX5 ⊢
          have HVOn := Lib.hid (HVO.out.below hbn); clear HVO; have HVO := HVOn; clear HVOn
          have HX0n := Lib.hid (HX0.out.later hbn); clear HX0; have HX0 := HX0n; clear HX0n
          have BBn := Lib.hid (BB.out.trans (hbn.mono BB.out.size)); clear BB; have BB := BBn; clear BBn
          clear ha hs0 hs1 hb hP hbx hbn
          obtain ⟨_, ⟨p1', p2', p3', p4', p5'⟩, _⟩ := O5.out.five
          obtain ⟨_, ⟨v1', v2', v3', v4', v5'⟩, _⟩ := HVO.out.five
          have OF5 : Hid (OffW (NtX b0 b1 v9 []) A5 n ∧ OffS (NtX b0 b1 v9 []) x5 R5 2 ∧ OffS (NtX b0 b1 v9 []) x5 S5 2) := Lib.hid (by
            obtain ⟨q0, q1, q2⟩ := HP5.out (NtX b0 b1 v9 []) ⟨HOLD.out, O1.out.1, O1.out.2.1, O1.out.2.2⟩
            exact ⟨q0, q1.later HS5.out.1 HX5.out, q2.later HS5.out.2 HX5.out⟩)
          have hnb : ¬ (w5.heap.size = b1) := by have := HB5.out.size; omega
          clear HP5 HS5 HX5 HB5 W1 O1 HGlt HOLD
          go_wp2_with fail
          (with_reducible refine (outsI_same _ _ _ _ _).mono ?_)
          rintro e w9 ⟨rfl, hb9⟩
          have W9 := Lib.hid (W5.out.later hb9)
          have OF9 := Lib.hid (And.intro OF5.out.1 (And.intro (OF5.out.2.1.later W5.out.2.2.1 hb9) (OF5.out.2.2.later W5.out.2.2.2 hb9)))
          have HX9 := Lib.hid (HX0.out.later hb9)
          clear W5 OF5 HX0 O5 HVO hb9 BB p1' p2' p3' p4' p5' v1' v2' v3' v4' v5'
          obtain ⟨_, ⟨e0, e1, e2, e3, e4, e5⟩, _⟩ := W9.out.1.six
          obtain ⟨A8, ka8, R8, ra8, S8, sa8, hW8, _⟩ := HX9.out.run
          obtain ⟨zx, ⟨y0, y1, y2, y3, y4, y5⟩, f0, f1, f2, f3, f4, f5⟩ := hW8.1.six
          have HOWN := Lib.hid HX9.out.own
          have hbb := HX9.out.below
          have nb' : ¬ (b1 = w5.heap.size) := fun e => hnb e.symm
          clear hW8
          go_wp2_with fail
          go_roundw
          case rel => exact ⟨i + 1, G5, (hs ++ [a]), by omega, by go_num, HED2.out, (HX9.out.put (by repeat (first | with_reducible exact Keep.refl _ _ | with_reducible refine Keep.drew ?_ | with_reducible refine Keep.alloc ?_ _ | (with_reducible refine Keep.set ?_ _ _ _ (ntx1 _ _ _ _ _)))) (fun b vs hne h => (((((h.apart _ _ (Ne.symm hne)).apart _ _ (Ne.symm hne)).apart _ _ (Ne.symm hne)).apart _ _ (Ne.symm hne)).apart _ _ (Ne.symm hne)).apart _ _ (Ne.symm hne)) (by repeat (first | with_reducible assumption | with_reducible refine Below.drew ?_ | with_reducible refine below_al ?_ | (with_reducible refine below_set1 (by omega) _ ?_))) (by repeat (first | with_reducible exact HOWN.out | (with_reducible refine OwnI.apart ?_ _ _ _ (by omega)))) ⟨A5, ka5, R5, ra5, S5, sa5, ⟨VarAt.of6 (by simp; omega) (by go_simp) (by go_simp) (by go_simp) (by go_simp) (by go_simp) (by go_simp) (by go_simp) (by go_simp) (by go_simp) (by go_simp) (by go_simp) (by go_simp), W9.out.2.1.keep (Q := NtX b0 b1 v9 []) (by repeat (first | with_reducible exact Keep.refl _ _ | with_reducible refine Keep.drew ?_ | with_reducible refine Keep.alloc ?_ _ | (with_reducible refine Keep.set ?_ _ _ _ (ntx1 _ _ _ _ _)))) OF9.out.1, W9.out.2.2.1.keep (Q := NtX b0 b1 v9 []) (by repeat (first | with_reducible exact Keep.refl _ _ | with_reducible refine Keep.drew ?_ | with_reducible refine Keep.alloc ?_ _ | (with_reducible refine Keep.set ?_ _ _ _ (ntx1 _ _ _ _ _)))) OF9.out.2.1, W9.out.2.2.2.keep (Q := NtX b0 b1 v9 []) (by repeat (first | with_reducible exact Keep.refl _ _ | with_reducible refine Keep.drew ?_ | with_reducible refine Keep.alloc ?_ _ | (with_reducible refine Keep.set ?_ _ _ _ (ntx1 _ _ _ _ _)))) OF9.out.2.2⟩, OF9.out.1, OF9.out.2.1.keep W9.out.2.2.1 (Q := NtX b0 b1 v9 []) (by repeat (first | with_reducible exact Keep.refl _ _ | with_reducible refine Keep.drew ?_ | with_reducible refine Keep.alloc ?_ _ | (with_reducible refine Keep.set ?_ _ _ _ (ntx1 _ _ _ _ _)))) OF9.out.2.1, OF9.out.2.2.keep W9.out.2.2.2 (Q := NtX b0 b1 v9 []) (by repeat (first | with_reducible exact Keep.refl _ _ | with_reducible refine Keep.drew ?_ | with_reducible refine Keep.alloc ?_ _ | (with_reducible refine Keep.set ?_ _ _ _ (ntx1 _ _ _ _ _)))) OF9.out.2.2, fun P h => h.elim⟩)⟩
          case measure => simp [intOf]; omega
      · have hx6 : (x : Int) % 6 = 3 := by omega
        clear h6
        go_upto_region 14 with fail
        refine gen_w (P := fun W => Code.wp _ _ _ _ W) (fun z => RunX w b0 b1 B0 c n r (.slice vA k vcap) hs [(w8.heap.size + 1, [.int .i64 6, .int .i64 0, .int .i64 0, .int .u64 0])] G G z ∧ VarAt z p0 [.pointer (some ⟨b0, 0, none⟩)] ∧ VarAt z p1 [.int .i64 (me : Int)] ∧ w8.heap.size + 1 < z.heap.size) ⟨HR.out.new (below_pair _ _ _) (VarAt.made1 _ _ _ _) (Nat.le_succ _), HV0.out.below (below_pair _ _ _), HV1.out.below (below_pair _ _ _), by simp⟩ ?_
        rintro z ⟨hz, hz0, hz1, hz2⟩
        have HZ := Lib.hid hz
        have HQ0 := Lib.hid hz0
        have HQ1 := Lib.hid hz1
        have HW8 := Lib.hid (And.intro HV0.out.1 HV1.out.1)
        have a0 := (HZ.out.vars (w8.heap.size + 1, [.int .i64 6, .int .i64 0, .int .i64 0, .int .u64 0]) (by simp)).1.2.1 0 _ rfl
        clear hz hz0 hz1 HR HV0 HV1 hx hlb8 hlne hlne1
        go_upto_region 17 with fail
        clear a0
        refine gen_w (P := fun W => Code.wp _ _ _ _ W) (fun y => RunX w b0 b1 B0 c n r (.slice vA k vcap) hs [(z.heap.size, [.int .i64 0, .bool false, .int .i64 0, .int .u64 0, .slice none 0 0]), (w8.heap.size + 1, [.int .i64 6, .int .i64 0, .int .i64 0, .int .u64 0])] G G y ∧ VarAt y p0 [.pointer (some ⟨b0, 0, none⟩)] ∧ VarAt y p1 [.int .i64 (me : Int)]) ⟨HZ.out.new (al_below _ _) (VarAt.made _ _ _) (Nat.le_refl _), HQ0.out.below (al_below _ _), HQ1.out.below (al_below _ _)⟩ ?_
        rintro y ⟨hy, hy0, hy1⟩
        have HY := Lib.hid hy
        have HP0 := Lib.hid hy0
        have HP1 := Lib.hid hy1
        have HFA : Hid ((p0 < w8.heap.size + 1 ∧ p1 < w8.heap.size + 1) ∧ w8.heap.size + 1 < z.heap.size) := Lib.hid ⟨⟨Nat.lt_succ_of_lt HW8.out.1, Nat.lt_succ_of_lt HW8.out.2⟩, hz2⟩
        clear hy hy0 hy1 HZ HQ0 HQ1 HW8 hz2
        generalize z.heap.size = bo at *
        generalize w8.heap.size + 1 = bp at *
        have a0 := (HY.out.vars (bp, [.int .i64 6, .int .i64 0, .int .i64 0, .int .u64 0]) (by simp)).1.2.1 0 _ rfl
        obtain ⟨a, G5, ho, hh⟩ := HED.out.alloc (by have := HCK.out; omega) hme
        have HPD : Calls Try.prog 23 #[dirW p0 p1, .int .i64 2, .int .i64 (me : Int)] y (fun e w' => e = .returned (.int .i64 (a : Int)) ∧ RunX w b0 b1 B0 c n r (.slice vA k vcap) hs [(bo, [.int .i64 0, .bool false, .int .i64 0, .int .u64 0, .slice none 0 0]), (bp, [.int .i64 6, .int .i64 0, .int .i64 0, .int .u64 0])] G5 G w') := by
          have hcc : c ≤ 65536 := by have := HCK.out; omega
          have hrr := HY.out
          have hnn := HN.out
          rw [← hnn] at hrr ⊢
          exact allocD hcc hrr HP0.out HP1.out HNP.out.1 HNP.out.2 hme ho
        go_wp2_with fail
        (with_reducible refine HPD.mono ?_)
        clear HPD a0 HP0 HP1 HY
        rintro e w3 ⟨rfl, hr3⟩
        have HX := Lib.hid hr3
        clear hr3
        rcases hh with ⟨rfl, hed⟩ | ⟨ha1, hac, hed⟩
        · have HED2 := Lib.hid hed
          clear hed
          have hfz := (HX.out.vars (bo, [.int .i64 0, .bool false, .int .i64 0, .int .u64 0, .slice none 0 0]) (by simp)).1.2.2 2 (by simp)
          have hcz := (HX.out.vars (bo, [.int .i64 0, .bool false, .int .i64 0, .int .u64 0, .slice none 0 0]) (by simp)).1.2.1 2 _ rfl
          have hbz := (HX.out.vars (bo, [.int .i64 0, .bool false, .int .i64 0, .int .u64 0, .slice none 0 0]) (by simp)).1.1
          go_upto_region 24 with fail
          refine gen_w (P := fun W => Code.wp _ _ _ _ W) (fun z => RunX w b0 b1 B0 c n r (.slice vA k vcap) hs [(bo, [.int .i64 0, .bool false, .int .i64 0, .int .u64 0, .slice none 0 0]), (bp, [.int .i64 6, .int .i64 0, .int .i64 0, .int .u64 0])] G5 G z) (HX.out.set0 2 (.int .i64 0) (by decide) (fun p hp => by simp only [List.mem_singleton] at hp; subst hp; have := HFA.out.2; show bp ≠ bo; omega)) ?_
          rintro z hz
          clear HX hfz hcz hbz
          have HX := Lib.hid hz
          clear hz
          have a2 := (HX.out.vars (bo, [.int .i64 0, .bool false, .int .i64 0, .int .u64 0, .slice none 0 0]) (by simp)).1.2.1 2 _ rfl
          go_upto_region 34 with fail
          clear a2
          have HAL : ∀ (A : Option Addr) (ka : Nat) (R : Option Addr) (ra : Nat) (S : Option Addr) (sa : Nat) (w : World), Hid (AtW w A n G) → Hid (StmsAt w R 2 (zerosS 2)) → Hid (StmsAt w S 2 (zerosS 2)) →
              Calls Try.prog 16 #[.agg #[.int .i64 2, .int .i64 (c : Int), .slice A n ka, .int .u64 (r : Int), .slice R 2 ra, .slice S 2 sa], .int .i64 (me : Int), .agg #[.int .i64 6, .int .i64 0, .int .i64 0, .int .u64 0], .int .i64 300] w (AloneEndE w 2 (c : Int) A n r R S 2 G5 (zerosS 2) (zerosS 2) 0 false 0) := by
            have h := HOPS me 6 0 0 0 false 0 G G5 300 300 hme ho (Nat.le_refl _) (by decide) (by decide) rfl rfl rfl
            rw [HN.out] at h
            exact h
          have HVO := Lib.hid (HX.out.vars (bo, [.int .i64 0, .bool false, .int .i64 0, .int .u64 0, .slice none 0 0]) (by simp)).1
          have HVP := Lib.hid (HX.out.vars (bp, [.int .i64 6, .int .i64 0, .int .i64 0, .int .u64 0]) (by simp)).1
          have HX0 := Lib.hid (HX.out.less (L' := []) (fun p hp => by cases hp))
          have HOLD := Lib.hid HX0.out.old
          have HWD := Lib.hid HX0.out.run
          have BB := Lib.hid HX0.out.below
          have hltx := HX0.out.lt
          have hszx := HX0.out.size
          have g0 := HVP.out.2.1 0 _ rfl
          have g1 := HVP.out.2.1 1 _ rfl
          have g2 := HVP.out.2.1 2 _ rfl
          have g3 := HVP.out.2.1 3 _ rfl
          clear HX ho
          obtain ⟨A1, ka1, R1, ra1, S1, sa1, hW, o0, o1, o2, _⟩ := HWD.out
          have W1 := Lib.hid hW
          have O1 := Lib.hid (And.intro o0 (And.intro o1 o2))
          obtain ⟨c0, c1, c2, c3, c4, c5⟩ := hW.cells
          have HGlt := Lib.hid hW.1.1
          clear hW o0 o1 o2
          clear HWD
          go_wp2_with fail
          (with_reducible refine (HAL A1 ka1 R1 ra1 S1 sa1 _ W1.out.gA W1.out.g0 W1.out.g1).mono ?_)
          clear HAL c0 c1 c2 c3 c4 c5 g0 g1 g2 g3 HVP
          rintro e w5 ⟨A5, ka5, R5, ra5, S5, sa5, rfl, ha, hs0, hs1, hb, hP⟩
          go_upto_region 35 with fail
          have hbx : Below w5.heap.size w5 ((w5.alloc (.cells #[.int .i64 2, .int .i64 (c : Int), .slice A5 n ka5, .int .u64 (r : Int), .slice R5 2 ra5, .slice S5 2 sa5] 51)).alloc (.cells #[.int .i64 0, .bool false, .int .i64 0, .int .u64 0, .slice none 0 0] 37)) := below_pair _ _ _
          have W5 := Lib.hid (WdAt.made (t := 2) (c := (c : Int)) (k := ka5) (r := r) (ra := ra5) (sa := sa5) w5 (.cells #[.int .i64 0, .bool false, .int .i64 0, .int .u64 0, .slice none 0 0] 37) 51 ha hs0 hs1)
          have O5 := Lib.hid (VarAt.made1 w5 (.cells #[.int .i64 2, .int .i64 (c : Int), .slice A5 n ka5, .int .u64 (r : Int), .slice R5 2 ra5, .slice S5 2 sa5] 51) #[.int .i64 0, .bool false, .int .i64 0, .int .u64 0, .slice none 0 0] 37)
          have hbn := hb.trans (hbx.mono hb.size)
          have HS5 := Lib.hid (And.intro hs0 hs1)
          have HX5 := Lib.hid hbx
          have HB5 := Lib.hid hb
          have HP5 := Lib.hid hP
          generalize (w5.alloc (.cells #[.int .i64 2, .int .i64 (c : Int), .slice A5 n ka5, .int .u64 (r : Int), .slice R5 2 ra5, .slice S5 2 sa5] 51)).alloc (.cells #[.int .i64 0, .bool false, .int .i64 0, .int .u64 0, .slice none 0 0] 37) = x5 at hbx hbn W5 O5 HX5 ⊢
          have HVOn := Lib.hid (HVO.out.below hbn); clear HVO; have HVO := HVOn; clear HVOn
          have HX0n := Lib.hid (HX0.out.later hbn); clear HX0; have HX0 := HX0n; clear HX0n
          have BBn := Lib.hid (BB.out.trans (hbn.mono BB.out.size)); clear BB; have BB := BBn; clear BBn
          clear ha hs0 hs1 hb hP hbx hbn
          obtain ⟨_, ⟨p1', p2', p3', p4', p5'⟩, _⟩ := O5.out.five
          obtain ⟨_, ⟨v1', v2', v3', v4', v5'⟩, _⟩ := HVO.out.five
          have OF5 : Hid (OffW (NtX b0 b1 (.slice vA k vcap) []) A5 n ∧ OffS (NtX b0 b1 (.slice vA k vcap) []) x5 R5 2 ∧ OffS (NtX b0 b1 (.slice vA k vcap) []) x5 S5 2) := Lib.hid (by
            obtain ⟨q0, q1, q2⟩ := HP5.out (NtX b0 b1 (.slice vA k vcap) []) ⟨HOLD.out, O1.out.1, O1.out.2.1, O1.out.2.2⟩
            exact ⟨q0, q1.later HS5.out.1 HX5.out, q2.later HS5.out.2 HX5.out⟩)
          have hnb : ¬ (w5.heap.size = b1) := by have := HB5.out.size; omega
          clear HP5 HS5 HX5 HB5 W1 O1 HGlt HOLD
          go_wp2_with fail
          (with_reducible refine (outsI_same _ _ _ _ _).mono ?_)
          rintro e w9 ⟨rfl, hb9⟩
          have W9 := Lib.hid (W5.out.later hb9)
          have OF9 := Lib.hid (And.intro OF5.out.1 (And.intro (OF5.out.2.1.later W5.out.2.2.1 hb9) (OF5.out.2.2.later W5.out.2.2.2 hb9)))
          have HX9 := Lib.hid (HX0.out.later hb9)
          clear W5 OF5 HX0 O5 HVO hb9 BB p1' p2' p3' p4' p5' v1' v2' v3' v4' v5'
          obtain ⟨_, ⟨e0, e1, e2, e3, e4, e5⟩, _⟩ := W9.out.1.six
          obtain ⟨A8, ka8, R8, ra8, S8, sa8, hW8, _⟩ := HX9.out.run
          obtain ⟨zx, ⟨y0, y1, y2, y3, y4, y5⟩, f0, f1, f2, f3, f4, f5⟩ := hW8.1.six
          have HOWN := Lib.hid HX9.out.own
          have hbb := HX9.out.below
          have nb' : ¬ (b1 = w5.heap.size) := fun e => hnb e.symm
          clear hW8
          go_wp2_with fail
          go_roundw
          case rel => exact ⟨i + 1, G5, hs, by omega, by go_num, HED2.out, (HX9.out.put (by repeat (first | with_reducible exact Keep.refl _ _ | with_reducible refine Keep.drew ?_ | with_reducible refine Keep.alloc ?_ _ | (with_reducible refine Keep.set ?_ _ _ _ (ntx1 _ _ _ _ _)))) (fun b vs hne h => (((((h.apart _ _ (Ne.symm hne)).apart _ _ (Ne.symm hne)).apart _ _ (Ne.symm hne)).apart _ _ (Ne.symm hne)).apart _ _ (Ne.symm hne)).apart _ _ (Ne.symm hne)) (by repeat (first | with_reducible assumption | with_reducible refine Below.drew ?_ | with_reducible refine below_al ?_ | (with_reducible refine below_set1 (by omega) _ ?_))) (by repeat (first | with_reducible exact HOWN.out | (with_reducible refine OwnI.apart ?_ _ _ _ (by omega)))) ⟨A5, ka5, R5, ra5, S5, sa5, ⟨VarAt.of6 (by simp; omega) (by go_simp) (by go_simp) (by go_simp) (by go_simp) (by go_simp) (by go_simp) (by go_simp) (by go_simp) (by go_simp) (by go_simp) (by go_simp) (by go_simp), W9.out.2.1.keep (Q := NtX b0 b1 (.slice vA k vcap) []) (by repeat (first | with_reducible exact Keep.refl _ _ | with_reducible refine Keep.drew ?_ | with_reducible refine Keep.alloc ?_ _ | (with_reducible refine Keep.set ?_ _ _ _ (ntx1 _ _ _ _ _)))) OF9.out.1, W9.out.2.2.1.keep (Q := NtX b0 b1 (.slice vA k vcap) []) (by repeat (first | with_reducible exact Keep.refl _ _ | with_reducible refine Keep.drew ?_ | with_reducible refine Keep.alloc ?_ _ | (with_reducible refine Keep.set ?_ _ _ _ (ntx1 _ _ _ _ _)))) OF9.out.2.1, W9.out.2.2.2.keep (Q := NtX b0 b1 (.slice vA k vcap) []) (by repeat (first | with_reducible exact Keep.refl _ _ | with_reducible refine Keep.drew ?_ | with_reducible refine Keep.alloc ?_ _ | (with_reducible refine Keep.set ?_ _ _ _ (ntx1 _ _ _ _ _)))) OF9.out.2.2⟩, OF9.out.1, OF9.out.2.1.keep W9.out.2.2.1 (Q := NtX b0 b1 (.slice vA k vcap) []) (by repeat (first | with_reducible exact Keep.refl _ _ | with_reducible refine Keep.drew ?_ | with_reducible refine Keep.alloc ?_ _ | (with_reducible refine Keep.set ?_ _ _ _ (ntx1 _ _ _ _ _)))) OF9.out.2.1, OF9.out.2.2.keep W9.out.2.2.2 (Q := NtX b0 b1 (.slice vA k vcap) []) (by repeat (first | with_reducible exact Keep.refl _ _ | with_reducible refine Keep.drew ?_ | with_reducible refine Keep.alloc ?_ _ | (with_reducible refine Keep.set ?_ _ _ _ (ntx1 _ _ _ _ _)))) OF9.out.2.2, fun P h => h.elim⟩)⟩
          case measure => simp [intOf]; omega
        · have HED2 := Lib.hid hed
          clear hed
          have da : decide ((0 : Int) < (a : Int)) = true := by rw [decide_eq_true_iff]; omega
          have da' : decide (0 < a) = true := by rw [decide_eq_true_iff]; omega
          have hfz := (HX.out.vars (bo, [.int .i64 0, .bool false, .int .i64 0, .int .u64 0, .slice none 0 0]) (by simp)).1.2.2 2 (by simp)
          have hcz := (HX.out.vars (bo, [.int .i64 0, .bool false, .int .i64 0, .int .u64 0, .slice none 0 0]) (by simp)).1.2.1 2 _ rfl
          have hbz := (HX.out.vars (bo, [.int .i64 0, .bool false, .int .i64 0, .int .u64 0, .slice none 0 0]) (by simp)).1.1
          go_upto_region 24 with fail
          refine gen_w (P := fun W => Code.wp _ _ _ _ W) (fun z => RunX w b0 b1 B0 c n r (.slice vA k vcap) hs [(bo, [.int .i64 0, .bool false, .int .i64 (a : Int), .int .u64 0, .slice none 0 0]), (bp, [.int .i64 6, .int .i64 0, .int .i64 0, .int .u64 0])] G5 G z) (HX.out.set0 2 (.int .i64 (a : Int)) (by decide) (fun p hp => by simp only [List.mem_singleton] at hp; subst hp; have := HFA.out.2; show bp ≠ bo; omega)) ?_
          rintro z hz
          clear HX hfz hcz hbz
          have HX := Lib.hid hz
          clear hz
          have a2 := (HX.out.vars (bo, [.int .i64 0, .bool false, .int .i64 (a : Int), .int .u64 0, .slice none 0 0]) (by simp)).1.2.1 2 _ rfl
          have HM9 : Hid (hs.length ≤ 900000) := Lib.hid (by have := HED.out.le; have := HCK.out; omega)
          have HOA : Hid (∀ o, OwnI (z.alloc o) B0 (.slice vA k vcap) hs) := Lib.hid (fun o => HX.out.own.later (al_below z o))
          have HZ1 : Hid (∀ o, B0 ≤ (z.alloc o).heap.size) := Lib.hid (fun o => Nat.le_trans HX.out.size (al_below z o).size)
          have HNXT : Hid (∀ o v' w', OwnI w' B0 v' (hs ++ [a]) → (z.alloc o).grownBy w' (Value.ownBlock (.slice vA k vcap)) → (v'.ownBlock = (Value.ownBlock (.slice vA k vcap)) ∨ v'.ownBlock = some (z.alloc o).heap.size) → RunX w b0 b1 B0 c n r v' (hs ++ [a]) [(bo, [.int .i64 0, .bool false, .int .i64 (a : Int), .int .u64 0, .slice none 0 0]), (bp, [.int .i64 6, .int .i64 0, .int .i64 0, .int .u64 0])] G5 G w') := Lib.hid (fun o v' w' h1 h2 h3 => (HX.out.later (al_below z o)).next h1 h2 h3)
          clear HX
          go_upto_region 34 with (at_builtin; (refine wpList_appendI (by rfl) (.tmp 88) (.tmp 91) (by rfl) B0 (.slice vA k vcap) hs (by rfl) (HOA.out _) z.heap.size 1 a (by rfl) (by go_simp) HM9.out (HZ1.out _) ?_); (intro v9 w7 hown9 hg9 hv9; have HX := Lib.hid (HNXT.out _ _ _ hown9 hg9 hv9); clear hown9 hg9 hv9 HNXT HOA HZ1 HM9))
          clear a2 da da'
          have HAL : ∀ (A : Option Addr) (ka : Nat) (R : Option Addr) (ra : Nat) (S : Option Addr) (sa : Nat) (w : World), Hid (AtW w A n G) → Hid (StmsAt w R 2 (zerosS 2)) → Hid (StmsAt w S 2 (zerosS 2)) →
              Calls Try.prog 16 #[.agg #[.int .i64 2, .int .i64 (c : Int), .slice A n ka, .int .u64 (r : Int), .slice R 2 ra, .slice S 2 sa], .int .i64 (me : Int), .agg #[.int .i64 6, .int .i64 0, .int .i64 0, .int .u64 0], .int .i64 300] w (AloneEndE w 2 (c : Int) A n r R S 2 G5 (zerosS 2) (zerosS 2) 0 false (a : Int)) := by
            have h := HOPS me 6 0 a 0 false (a : Int) G G5 300 300 hme ho (Nat.le_refl _) (by decide) (by decide) rfl rfl rfl
            rw [HN.out] at h
            exact h
          have HVO := Lib.hid (HX.out.vars (bo, [.int .i64 0, .bool false, .int .i64 (a : Int), .int .u64 0, .slice none 0 0]) (by simp)).1
          have HVP := Lib.hid (HX.out.vars (bp, [.int .i64 6, .int .i64 0, .int .i64 0, .int .u64 0]) (by simp)).1
          have HX0 := Lib.hid (HX.out.less (L' := []) (fun p hp => by cases hp))
          have HOLD := Lib.hid HX0.out.old
          have HWD := Lib.hid HX0.out.run
          have BB := Lib.hid HX0.out.below
          have hltx := HX0.out.lt
          have hszx := HX0.out.size
          have g0 := HVP.out.2.1 0 _ rfl
          have g1 := HVP.out.2.1 1 _ rfl
          have g2 := HVP.out.2.1 2 _ rfl
          have g3 := HVP.out.2.1 3 _ rfl
          clear HX ho
          obtain ⟨A1, ka1, R1, ra1, S1, sa1, hW, o0, o1, o2, _⟩ := HWD.out
          have W1 := Lib.hid hW
          have O1 := Lib.hid (And.intro o0 (And.intro o1 o2))
          obtain ⟨c0, c1, c2, c3, c4, c5⟩ := hW.cells
          have HGlt := Lib.hid hW.1.1
          clear hW o0 o1 o2
          clear HWD
          go_wp2_with fail
          (with_reducible refine (HAL A1 ka1 R1 ra1 S1 sa1 _ W1.out.gA W1.out.g0 W1.out.g1).mono ?_)
          clear HAL c0 c1 c2 c3 c4 c5 g0 g1 g2 g3 HVP
          rintro e w5 ⟨A5, ka5, R5, ra5, S5, sa5, rfl, ha, hs0, hs1, hb, hP⟩
          go_upto_region 35 with fail
          have hbx : Below w5.heap.size w5 ((w5.alloc (.cells #[.int .i64 2, .int .i64 (c : Int), .slice A5 n ka5, .int .u64 (r : Int), .slice R5 2 ra5, .slice S5 2 sa5] 51)).alloc (.cells #[.int .i64 0, .bool false, .int .i64 (a : Int), .int .u64 0, .slice none 0 0] 37)) := below_pair _ _ _
          have W5 := Lib.hid (WdAt.made (t := 2) (c := (c : Int)) (k := ka5) (r := r) (ra := ra5) (sa := sa5) w5 (.cells #[.int .i64 0, .bool false, .int .i64 (a : Int), .int .u64 0, .slice none 0 0] 37) 51 ha hs0 hs1)
          have O5 := Lib.hid (VarAt.made1 w5 (.cells #[.int .i64 2, .int .i64 (c : Int), .slice A5 n ka5, .int .u64 (r : Int), .slice R5 2 ra5, .slice S5 2 sa5] 51) #[.int .i64 0, .bool false, .int .i64 (a : Int), .int .u64 0, .slice none 0 0] 37)
          have hbn := hb.trans (hbx.mono hb.size)
          have HS5 := Lib.hid (And.intro hs0 hs1)
          have HX5 := Lib.hid hbx
          have HB5 := Lib.hid hb
          have HP5 := Lib.hid hP
          generalize (w5.alloc (.cells #[.int .i64 2, .int .i64 (c : Int), .slice A5 n ka5, .int .u64 (r : Int), .slice R5 2 ra5, .slice S5 2 sa5] 51)).alloc (.cells #[.int .i64 0, .bool false, .int .i64 (a : Int), .int .u64 0, .slice none 0 0] 37) = x5 at hbx hbn W5 O5 HX5 ⊢
          have HVOn := Lib.hid (HVO.out.below hbn); clear HVO; have HVO := HVOn; clear HVOn
          have HX0n := Lib.hid (HX0.out.later hbn); clear HX0; have HX0 := HX0n; clear HX0n
          have BBn := Lib.hid (BB.out.trans (hbn.mono BB.out.size)); clear BB; have BB := BBn; clear BBn
          clear ha hs0 hs1 hb hP hbx hbn
          obtain ⟨_, ⟨p1', p2', p3', p4', p5'⟩, _⟩ := O5.out.five
          obtain ⟨_, ⟨v1', v2', v3', v4', v5'⟩, _⟩ := HVO.out.five
          have OF5 : Hid (OffW (NtX b0 b1 v9 []) A5 n ∧ OffS (NtX b0 b1 v9 []) x5 R5 2 ∧ OffS (NtX b0 b1 v9 []) x5 S5 2) := Lib.hid (by
            obtain ⟨q0, q1, q2⟩ := HP5.out (NtX b0 b1 v9 []) ⟨HOLD.out, O1.out.1, O1.out.2.1, O1.out.2.2⟩
            exact ⟨q0, q1.later HS5.out.1 HX5.out, q2.later HS5.out.2 HX5.out⟩)
          have hnb : ¬ (w5.heap.size = b1) := by have := HB5.out.size; omega
          clear HP5 HS5 HX5 HB5 W1 O1 HGlt HOLD
          go_wp2_with fail
          (with_reducible refine (outsI_same _ _ _ _ _).mono ?_)
          rintro e w9 ⟨rfl, hb9⟩
          have W9 := Lib.hid (W5.out.later hb9)
          have OF9 := Lib.hid (And.intro OF5.out.1 (And.intro (OF5.out.2.1.later W5.out.2.2.1 hb9) (OF5.out.2.2.later W5.out.2.2.2 hb9)))
          have HX9 := Lib.hid (HX0.out.later hb9)
          clear W5 OF5 HX0 O5 HVO hb9 BB p1' p2' p3' p4' p5' v1' v2' v3' v4' v5'
          obtain ⟨_, ⟨e0, e1, e2, e3, e4, e5⟩, _⟩ := W9.out.1.six
          obtain ⟨A8, ka8, R8, ra8, S8, sa8, hW8, _⟩ := HX9.out.run
          obtain ⟨zx, ⟨y0, y1, y2, y3, y4, y5⟩, f0, f1, f2, f3, f4, f5⟩ := hW8.1.six
          have HOWN := Lib.hid HX9.out.own
          have hbb := HX9.out.below
          have nb' : ¬ (b1 = w5.heap.size) := fun e => hnb e.symm
          clear hW8
          go_wp2_with fail
          go_roundw
          case rel => exact ⟨i + 1, G5, (hs ++ [a]), by omega, by go_num, HED2.out, (HX9.out.put (by repeat (first | with_reducible exact Keep.refl _ _ | with_reducible refine Keep.drew ?_ | with_reducible refine Keep.alloc ?_ _ | (with_reducible refine Keep.set ?_ _ _ _ (ntx1 _ _ _ _ _)))) (fun b vs hne h => (((((h.apart _ _ (Ne.symm hne)).apart _ _ (Ne.symm hne)).apart _ _ (Ne.symm hne)).apart _ _ (Ne.symm hne)).apart _ _ (Ne.symm hne)).apart _ _ (Ne.symm hne)) (by repeat (first | with_reducible assumption | with_reducible refine Below.drew ?_ | with_reducible refine below_al ?_ | (with_reducible refine below_set1 (by omega) _ ?_))) (by repeat (first | with_reducible exact HOWN.out | (with_reducible refine OwnI.apart ?_ _ _ _ (by omega)))) ⟨A5, ka5, R5, ra5, S5, sa5, ⟨VarAt.of6 (by simp; omega) (by go_simp) (by go_simp) (by go_simp) (by go_simp) (by go_simp) (by go_simp) (by go_simp) (by go_simp) (by go_simp) (by go_simp) (by go_simp) (by go_simp), W9.out.2.1.keep (Q := NtX b0 b1 v9 []) (by repeat (first | with_reducible exact Keep.refl _ _ | with_reducible refine Keep.drew ?_ | with_reducible refine Keep.alloc ?_ _ | (with_reducible refine Keep.set ?_ _ _ _ (ntx1 _ _ _ _ _)))) OF9.out.1, W9.out.2.2.1.keep (Q := NtX b0 b1 v9 []) (by repeat (first | with_reducible exact Keep.refl _ _ | with_reducible refine Keep.drew ?_ | with_reducible refine Keep.alloc ?_ _ | (with_reducible refine Keep.set ?_ _ _ _ (ntx1 _ _ _ _ _)))) OF9.out.2.1, W9.out.2.2.2.keep (Q := NtX b0 b1 v9 []) (by repeat (first | with_reducible exact Keep.refl _ _ | with_reducible refine Keep.drew ?_ | with_reducible refine Keep.alloc ?_ _ | (with_reducible refine Keep.set ?_ _ _ _ (ntx1 _ _ _ _ _)))) OF9.out.2.2⟩, OF9.out.1, OF9.out.2.1.keep W9.out.2.2.1 (Q := NtX b0 b1 v9 []) (by repeat (first | with_reducible exact Keep.refl _ _ | with_reducible refine Keep.drew ?_ | with_reducible refine Keep.alloc ?_ _ | (with_reducible refine Keep.set ?_ _ _ _ (ntx1 _ _ _ _ _)))) OF9.out.2.1, OF9.out.2.2.keep W9.out.2.2.2 (Q := NtX b0 b1 v9 []) (by repeat (first | with_reducible exact Keep.refl _ _ | with_reducible refine Keep.drew ?_ | with_reducible refine Keep.alloc ?_ _ | (with_reducible refine Keep.set ?_ _ _ _ (ntx1 _ _ _ _ _)))) OF9.out.2.2, fun P h => h.elim⟩)⟩
          case measure => simp [intOf]; omega
      · have hx6 : (x : Int) % 6 = 4 := by omega
        clear h6
        go_upto_region 14 with fail
        refine gen_w (P := fun W => Code.wp _ _ _ _ W) (fun z => RunX w b0 b1 B0 c n r (.slice vA k vcap) hs [(w8.heap.size + 1, [.int .i64 5, .int .i64 0, .int .i64 0, .int .u64 0])] G G z ∧ VarAt z p0 [.pointer (some ⟨b0, 0, none⟩)] ∧ VarAt z p1 [.int .i64 (me : Int)] ∧ w8.heap.size + 1 < z.heap.size) ⟨HR.out.new (below_pair _ _ _) (VarAt.made1 _ _ _ _) (Nat.le_succ _), HV0.out.below (below_pair _ _ _), HV1.out.below (below_pair _ _ _), by simp⟩ ?_
        rintro z ⟨hz, hz0, hz1, hz2⟩
        have HZ := Lib.hid hz
        have HQ0 := Lib.hid hz0
        have HQ1 := Lib.hid hz1
        have HW8 := Lib.hid (And.intro HV0.out.1 HV1.out.1)
        have a0 := (HZ.out.vars (w8.heap.size + 1, [.int .i64 5, .int .i64 0, .int .i64 0, .int .u64 0]) (by simp)).1.2.1 0 _ rfl
        clear hz hz0 hz1 HR HV0 HV1 hx hlb8 hlne hlne1
        by_cases hk0 : k = 0
        · have dk : ((k : Int) == 0) = true := by rw [beq_iff_eq]; omega
          have dk' : (k == 0) = true := by rw [beq_iff_eq]; omega
          clear hk0
          go_wp2_with fail
          go_roundw
          case rel => exact ⟨i + 1, G, hs, by omega, by go_num, HED.out, HZ.out.less (fun p hp => by cases hp)⟩
          case measure => simp [intOf]; omega
        · obtain ⟨k1, rfl⟩ : ∃ k1, k = k1 + 1 := ⟨k - 1, by omega⟩
          obtain ⟨hs', q, rfl⟩ : ∃ hs' q, hs = hs' ++ [q] := ⟨hs.dropLast, hs.getLast (by intro h; have := HKL.out; rw [h] at this; simp at this), (List.dropLast_concat_getLast _).symm⟩
          have hkl : hs'.length = k1 := by have := HKL.out; simp at this; exact this
          have HKL1 := Lib.hid hkl
          obtain ⟨hg, rfl, _, _⟩ := HZ.out.own.at_ (show (hs' ++ [q])[k1]? = some q by rw [← hkl]; simp)
          have dk : (((k1 : Int) + 1) == 0) = false := by rw [beq_eq_false_iff_ne]; omega
          have dk' : (k1 + 1 == 0) = false := by rw [beq_eq_false_iff_ne]; omega
          have d14 : decide ((k1 : Int) < 0) = false := by rw [decide_eq_false_iff_not]; omega
          have hk9 : k1 < 100 := by have := HED.out.le; have := HCK.out; simp at *; omega
          clear hk0 hkl
          go_upto_region 17 with fail
          clear a0
          refine gen_w (P := fun W => Code.wp _ _ _ _ W) (fun y => RunX w b0 b1 B0 c n r (.slice (some ⟨hg, 0, none⟩) (k1 + 1) vcap) (hs' ++ [q]) [(z.heap.size, [.int .i64 0, .bool false, .int .i64 0, .int .u64 0, .slice none 0 0]), (w8.heap.size + 1, [.int .i64 5, .int .i64 0, .int .i64 0, .int .u64 0])] G G y ∧ VarAt y p0 [.pointer (some ⟨b0, 0, none⟩)] ∧ VarAt y p1 [.int .i64 (me : Int)]) ⟨HZ.out.new (al_below _ _) (VarAt.made _ _ _) (Nat.le_refl _), HQ0.out.below (al_below _ _), HQ1.out.below (al_below _ _)⟩ ?_
          rintro y ⟨hy, hy0, hy1⟩
          have HY := Lib.hid hy
          have HP0 := Lib.hid hy0
          have HP1 := Lib.hid hy1
          have HFA : Hid ((p0 < w8.heap.size + 1 ∧ p1 < w8.heap.size + 1) ∧ w8.heap.size + 1 < z.heap.size) := Lib.hid ⟨⟨Nat.lt_succ_of_lt HW8.out.1, Nat.lt_succ_of_lt HW8.out.2⟩, hz2⟩
          clear hy hy0 hy1 HZ HQ0 HQ1 HW8 hz2
          generalize z.heap.size = bo at *
          generalize w8.heap.size + 1 = bp at *
          have a0 := (HY.out.vars (bp, [.int .i64 5, .int .i64 0, .int .i64 0, .int .u64 0]) (by simp)).1.2.1 0 _ rfl
          obtain ⟨hq1, hqc, G5, ho, hed⟩ := HED.out.retire (me := me) (by have := HCK.out; omega)
          have HED2 := Lib.hid hed
          clear hed
          have hcut := run_cutI_h (some ⟨hg, 0, none⟩) (k1 + 1) vcap k1 (by omega)
          obtain ⟨hg', ehg, _, r1⟩ := HY.out.own.at_ (show (hs' ++ [q])[k1]? = some q by rw [← HKL1.out]; simp)
          cases ehg
          have i2 : (0 : Int) ≤ (k1 : Int) := by omega
          have i3 : (k1 : Int) < (k1 : Int) + 1 := by omega
          have hfz := (HY.out.vars (bp, [.int .i64 5, .int .i64 0, .int .i64 0, .int .u64 0]) (by simp)).1.2.2 1 (by simp)
          have hcz := (HY.out.vars (bp, [.int .i64 5, .int .i64 0, .int .i64 0, .int .u64 0]) (by simp)).1.2.1 1 _ rfl
          have hbz := (HY.out.vars (bp, [.int .i64 5, .int .i64 0, .int .i64 0, .int .u64 0]) (by simp)).1.1
          go_upto_region 31 with fail
          refine gen_w (P := fun W => Code.wp _ _ _ _ W) (fun y2 => RunX w b0 b1 B0 c n r (.slice (some ⟨hg, 0, none⟩) k1 vcap) hs' [(bo, [.int .i64 0, .bool false, .int .i64 0, .int .u64 0, .slice none 0 0]), (bp, [.int .i64 5, .int .i64 (q : Int), .int .i64 0, .int .u64 0])] G G y2 ∧ VarAt y2 p0 [.pointer (some ⟨b0, 0, none⟩)] ∧ VarAt y2 p1 [.int .i64 (me : Int)]) ⟨by
            have h := (HY.out.cut (m := k1) (by rw [List.length_append, HKL1.out]; omega) (by simp)).set1 1 (.int .i64 (q : Int)) (by decide) (fun p hp => by simp only [List.mem_singleton] at hp; subst hp; have := HFA.out.2; show bo ≠ bp; omega)
            rw [show (hs' ++ [q]).take k1 = hs' by rw [← HKL1.out]; simp] at h
            exact h, HP0.out.apart _ _ (by have := HFA.out.1; omega), HP1.out.apart _ _ (by have := HFA.out.1; omega)⟩ ?_
          clear HY HP0 HP1 hfz hcz hbz r1 hcut a0 y
          rintro y ⟨hy, hy0, hy1⟩
          have HY := Lib.hid hy
          have HP0 := Lib.hid hy0
          have HP1 := Lib.hid hy1
          clear hy hy0 hy1
          have a0 := (HY.out.vars (bp, [.int .i64 5, .int .i64 (q : Int), .int .i64 0, .int .u64 0]) (by simp)).1.2.1 1 _ rfl
          have a00 := (HY.out.vars (bp, [.int .i64 5, .int .i64 (q : Int), .int .i64 0, .int .u64 0]) (by simp)).1.2.1 0 _ rfl
          have HPD : Calls Try.prog 24 #[dirW p0 p1, .int .i64 2, .int .i64 (q : Int)] y (fun e w' => e = .returned (.tuple #[]) ∧ RunX w b0 b1 B0 c n r (.slice (some ⟨hg, 0, none⟩) k1 vcap) hs' [(bo, [.int .i64 0, .bool false, .int .i64 0, .int .u64 0, .slice none 0 0]), (bp, [.int .i64 5, .int .i64 (q : Int), .int .i64 0, .int .u64 0])] G5 G w') := by
            have hcc : c ≤ 65536 := by have := HCK.out; omega
            have hrr := HY.out
            have hnn := HN.out
            rw [← hnn] at hrr ⊢
            exact retireD hcc hrr HP0.out HP1.out HNP.out.1 HNP.out.2 hq1 (by have := HCK.out; omega) ho
          go_wp2_with fail
          (with_reducible refine HPD.mono ?_)
          clear HPD a0 a00 HP0 HP1 HY
          rintro e w3 ⟨rfl, hr3⟩
          have HX := Lib.hid hr3
          clear hr3
          have HAL : ∀ (A : Option Addr) (ka : Nat) (R : Option Addr) (ra : Nat) (S : Option Addr) (sa : Nat) (w : World), Hid (AtW w A n G) → Hid (StmsAt w R 2 (zerosS 2)) → Hid (StmsAt w S 2 (zerosS 2)) →
              Calls Try.prog 16 #[.agg #[.int .i64 2, .int .i64 (c : Int), .slice A n ka, .int .u64 (r : Int), .slice R 2 ra, .slice S 2 sa], .int .i64 (me : Int), .agg #[.int .i64 5, .int .i64 (q : Int), .int .i64 0, .int .u64 0], .int .i64 300] w (AloneEndE w 2 (c : Int) A n r R S 2 G5 (zerosS 2) (zerosS 2) 0 false 0) := by
            have h := HOPS me 5 (q : Int) 0 0 false 0 G G5 300 300 hme ho (Nat.le_refl _) (by decide) (fun _ => ⟨by omega, by have := HCK.out; omega⟩) rfl rfl rfl
            rw [HN.out] at h
            exact h
          have HVO := Lib.hid (HX.out.vars (bo, [.int .i64 0, .bool false, .int .i64 0, .int .u64 0, .slice none 0 0]) (by simp)).1
          have HVP := Lib.hid (HX.out.vars (bp, [.int .i64 5, .int .i64 (q : Int), .int .i64 0, .int .u64 0]) (by simp)).1
          have HX0 := Lib.hid (HX.out.less (L' := []) (fun p hp => by cases hp))
          have HOLD := Lib.hid HX0.out.old
          have HWD := Lib.hid HX0.out.run
          have BB := Lib.hid HX0.out.below
          have hltx := HX0.out.lt
          have hszx := HX0.out.size
          have g0 := HVP.out.2.1 0 _ rfl
          have g1 := HVP.out.2.1 1 _ rfl
          have g2 := HVP.out.2.1 2 _ rfl
          have g3 := HVP.out.2.1 3 _ rfl
          clear HX ho
          obtain ⟨A1, ka1, R1, ra1, S1, sa1, hW, o0, o1, o2, _⟩ := HWD.out
          have W1 := Lib.hid hW
          have O1 := Lib.hid (And.intro o0 (And.intro o1 o2))
          obtain ⟨c0, c1, c2, c3, c4, c5⟩ := hW.cells
          have HGlt := Lib.hid hW.1.1
          clear hW o0 o1 o2
          clear HWD
          go_wp2_with fail
          (with_reducible refine (HAL A1 ka1 R1 ra1 S1 sa1 _ W1.out.gA W1.out.g0 W1.out.g1).mono ?_)
          clear HAL c0 c1 c2 c3 c4 c5 g0 g1 g2 g3 HVP
          rintro e w5 ⟨A5, ka5, R5, ra5, S5, sa5, rfl, ha, hs0, hs1, hb, hP⟩
          go_upto_region 35 with fail
          have hbx : Below w5.heap.size w5 ((w5.alloc (.cells #[.int .i64 2, .int .i64 (c : Int), .slice A5 n ka5, .int .u64 (r : Int), .slice R5 2 ra5, .slice S5 2 sa5] 51)).alloc (.cells #[.int .i64 0, .bool false, .int .i64 0, .int .u64 0, .slice none 0 0] 37)) := below_pair _ _ _
          have W5 := Lib.hid (WdAt.made (t := 2) (c := (c : Int)) (k := ka5) (r := r) (ra := ra5) (sa := sa5) w5 (.cells #[.int .i64 0, .bool false, .int .i64 0, .int .u64 0, .slice none 0 0] 37) 51 ha hs0 hs1)
          have O5 := Lib.hid (VarAt.made1 w5 (.cells #[.int .i64 2, .int .i64 (c : Int), .slice A5 n ka5, .int .u64 (r : Int), .slice R5 2 ra5, .slice S5 2 sa5] 51) #[.int .i64 0, .bool false, .int .i64 0, .int .u64 0, .slice none 0 0] 37)
          have hbn := hb.trans (hbx.mono hb.size)
          have HS5 := Lib.hid (And.intro hs0 hs1)
          have HX5 := Lib.hid hbx
          have HB5 := Lib.hid hb
          have HP5 := Lib.hid hP
          generalize (w5.alloc (.cells #[.int .i64 2, .int .i64 (c : Int), .slice A5 n ka5, .int .u64 (r : Int), .slice R5 2 ra5, .slice S5 2 sa5] 51)).alloc (.cells #[.int .i64 0, .bool false, .int .i64 0, .int .u64 0, .slice none 0 0] 37) = x5 at hbx hbn W5 O5 HX5 ⊢
          have HVOn := Lib.hid (HVO.out.below hbn); clear HVO; have HVO := HVOn; clear HVOn
          have HX0n := Lib.hid (HX0.out.later hbn); clear HX0; have HX0 := HX0n; clear HX0n
          have BBn := Lib.hid (BB.out.trans (hbn.mono BB.out.size)); clear BB; have BB := BBn; clear BBn
          clear ha hs0 hs1 hb hP hbx hbn
          obtain ⟨_, ⟨p1', p2', p3', p4', p5'⟩, _⟩ := O5.out.five
          obtain ⟨_, ⟨v1', v2', v3', v4', v5'⟩, _⟩ := HVO.out.five
          have OF5 : Hid (OffW (NtX b0 b1 (.slice (some ⟨hg, 0, none⟩) k1 vcap) []) A5 n ∧ OffS (NtX b0 b1 (.slice (some ⟨hg, 0, none⟩) k1 vcap) []) x5 R5 2 ∧ OffS (NtX b0 b1 (.slice (some ⟨hg, 0, none⟩) k1 vcap) []) x5 S5 2) := Lib.hid (by
            obtain ⟨q0, q1, q2⟩ := HP5.out (NtX b0 b1 (.slice (some ⟨hg, 0, none⟩) k1 vcap) []) ⟨HOLD.out, O1.out.1, O1.out.2.1, O1.out.2.2⟩
            exact ⟨q0, q1.later HS5.out.1 HX5.out, q2.later HS5.out.2 HX5.out⟩)
          have hnb : ¬ (w5.heap.size = b1) := by have := HB5.out.size; omega
          clear HP5 HS5 HX5 HB5 W1 O1 HGlt HOLD
          go_wp2_with fail
          (with_reducible refine (outsI_same _ _ _ _ _).mono ?_)
          rintro e w9 ⟨rfl, hb9⟩
          have W9 := Lib.hid (W5.out.later hb9)
          have OF9 := Lib.hid (And.intro OF5.out.1 (And.intro (OF5.out.2.1.later W5.out.2.2.1 hb9) (OF5.out.2.2.later W5.out.2.2.2 hb9)))
          have HX9 := Lib.hid (HX0.out.later hb9)
          clear W5 OF5 HX0 O5 HVO hb9 BB p1' p2' p3' p4' p5' v1' v2' v3' v4' v5'
          obtain ⟨_, ⟨e0, e1, e2, e3, e4, e5⟩, _⟩ := W9.out.1.six
          obtain ⟨A8, ka8, R8, ra8, S8, sa8, hW8, _⟩ := HX9.out.run
          obtain ⟨zx, ⟨y0, y1, y2, y3, y4, y5⟩, f0, f1, f2, f3, f4, f5⟩ := hW8.1.six
          have HOWN := Lib.hid HX9.out.own
          have hbb := HX9.out.below
          have nb' : ¬ (b1 = w5.heap.size) := fun e => hnb e.symm
          clear hW8
          go_wp2_with fail
          go_roundw
          case rel => exact ⟨i + 1, G5, hs', by omega, by go_num, HED2.out, (HX9.out.put (by repeat (first | with_reducible exact Keep.refl _ _ | with_reducible refine Keep.drew ?_ | with_reducible refine Keep.alloc ?_ _ | (with_reducible refine Keep.set ?_ _ _ _ (ntx1 _ _ _ _ _)))) (fun b vs hne h => (((((h.apart _ _ (Ne.symm hne)).apart _ _ (Ne.symm hne)).apart _ _ (Ne.symm hne)).apart _ _ (Ne.symm hne)).apart _ _ (Ne.symm hne)).apart _ _ (Ne.symm hne)) (by repeat (first | with_reducible assumption | with_reducible refine Below.drew ?_ | with_reducible refine below_al ?_ | (with_reducible refine below_set1 (by omega) _ ?_))) (by repeat (first | with_reducible exact HOWN.out | (with_reducible refine OwnI.apart ?_ _ _ _ (by omega)))) ⟨A5, ka5, R5, ra5, S5, sa5, ⟨VarAt.of6 (by simp; omega) (by go_simp) (by go_simp) (by go_simp) (by go_simp) (by go_simp) (by go_simp) (by go_simp) (by go_simp) (by go_simp) (by go_simp) (by go_simp) (by go_simp), W9.out.2.1.keep (Q := NtX b0 b1 (.slice (some ⟨hg, 0, none⟩) k1 vcap) []) (by repeat (first | with_reducible exact Keep.refl _ _ | with_reducible refine Keep.drew ?_ | with_reducible refine Keep.alloc ?_ _ | (with_reducible refine Keep.set ?_ _ _ _ (ntx1 _ _ _ _ _)))) OF9.out.1, W9.out.2.2.1.keep (Q := NtX b0 b1 (.slice (some ⟨hg, 0, none⟩) k1 vcap) []) (by repeat (first | with_reducible exact Keep.refl _ _ | with_reducible refine Keep.drew ?_ | with_reducible refine Keep.alloc ?_ _ | (with_reducible refine Keep.set ?_ _ _ _ (ntx1 _ _ _ _ _)))) OF9.out.2.1, W9.out.2.2.2.keep (Q := NtX b0 b1 (.slice (some ⟨hg, 0, none⟩) k1 vcap) []) (by repeat (first | with_reducible exact Keep.refl _ _ | with_reducible refine Keep.drew ?_ | with_reducible refine Keep.alloc ?_ _ | (with_reducible refine Keep.set ?_ _ _ _ (ntx1 _ _ _ _ _)))) OF9.out.2.2⟩, OF9.out.1, OF9.out.2.1.keep W9.out.2.2.1 (Q := NtX b0 b1 (.slice (some ⟨hg, 0, none⟩) k1 vcap) []) (by repeat (first | with_reducible exact Keep.refl _ _ | with_reducible refine Keep.drew ?_ | with_reducible refine Keep.alloc ?_ _ | (with_reducible refine Keep.set ?_ _ _ _ (ntx1 _ _ _ _ _)))) OF9.out.2.1, OF9.out.2.2.keep W9.out.2.2.2 (Q := NtX b0 b1 (.slice (some ⟨hg, 0, none⟩) k1 vcap) []) (by repeat (first | with_reducible exact Keep.refl _ _ | with_reducible refine Keep.drew ?_ | with_reducible refine Keep.alloc ?_ _ | (with_reducible refine Keep.set ?_ _ _ _ (ntx1 _ _ _ _ _)))) OF9.out.2.2, fun P h => h.elim⟩)⟩
          case measure => simp [intOf]; omega
      · have hx6 : (x : Int) % 6 = 5 := by omega
        clear h6
        go_upto_region 14 with fail
        refine gen_w (P := fun W => Code.wp _ _ _ _ W) (fun z => RunX w b0 b1 B0 c n r (.slice vA k vcap) hs [(w8.heap.size + 1, [.int .i64 19, .int .i64 0, .int .i64 0, .int .u64 0])] G G z ∧ VarAt z p0 [.pointer (some ⟨b0, 0, none⟩)] ∧ VarAt z p1 [.int .i64 (me : Int)] ∧ w8.heap.size + 1 < z.heap.size) ⟨HR.out.new (below_pair _ _ _) (VarAt.made1 _ _ _ _) (Nat.le_succ _), HV0.out.below (below_pair _ _ _), HV1.out.below (below_pair _ _ _), by simp⟩ ?_
        rintro z ⟨hz, hz0, hz1, hz2⟩
        have HZ := Lib.hid hz
        have HQ0 := Lib.hid hz0
        have HQ1 := Lib.hid hz1
        have HW8 := Lib.hid (And.intro HV0.out.1 HV1.out.1)
        have a0 := (HZ.out.vars (w8.heap.size + 1, [.int .i64 19, .int .i64 0, .int .i64 0, .int .u64 0]) (by simp)).1.2.1 0 _ rfl
        clear hz hz0 hz1 HR HV0 HV1 hx hlb8 hlne hlne1
        go_upto_region 17 with fail
        clear a0
        refine gen_w (P := fun W => Code.wp _ _ _ _ W) (fun y => RunX w b0 b1 B0 c n r (.slice vA k vcap) hs [(z.heap.size, [.int .i64 0, .bool false, .int .i64 0, .int .u64 0, .slice none 0 0]), (w8.heap.size + 1, [.int .i64 19, .int .i64 0, .int .i64 0, .int .u64 0])] G G y ∧ VarAt y p0 [.pointer (some ⟨b0, 0, none⟩)] ∧ VarAt y p1 [.int .i64 (me : Int)]) ⟨HZ.out.new (al_below _ _) (VarAt.made _ _ _) (Nat.le_refl _), HQ0.out.below (al_below _ _), HQ1.out.below (al_below _ _)⟩ ?_
        rintro y ⟨hy, hy0, hy1⟩
        have HY := Lib.hid hy
        have HP0 := Lib.hid hy0
        have HP1 := Lib.hid hy1
        have HFA : Hid ((p0 < w8.heap.size + 1 ∧ p1 < w8.heap.size + 1) ∧ w8.heap.size + 1 < z.heap.size) := Lib.hid ⟨⟨Nat.lt_succ_of_lt HW8.out.1, Nat.lt_succ_of_lt HW8.out.2⟩, hz2⟩
        clear hy hy0 hy1 HZ HQ0 HQ1 HW8 hz2
        generalize z.heap.size = bo at *
        generalize w8.heap.size + 1 = bp at *
        have a0 := (HY.out.vars (bp, [.int .i64 19, .int .i64 0, .int .i64 0, .int .u64 0]) (by simp)).1.2.1 0 _ rfl
        obtain ⟨d, G5, ho, hed, hd⟩ := HED.out.adv (me := me) (by have := HCK.out; omega)
        have HED2 := Lib.hid hed
        clear hed
        rcases hd with rfl | rfl
        · have HPD : Calls Try.prog 25 #[dirW p0 p1, .int .i64 2] y (fun e w' => e = .returned (.bool false) ∧ RunX w b0 b1 B0 c n r (.slice vA k vcap) hs [(bo, [.int .i64 0, .bool false, .int .i64 0, .int .u64 0, .slice none 0 0]), (bp, [.int .i64 19, .int .i64 0, .int .i64 0, .int .u64 0])] G5 G w') := by
            have hcc : c ≤ 65536 := by have := HCK.out; omega
            have hrr := HY.out
            have hnn := HN.out
            rw [← hnn] at hrr ⊢
            exact advanceD hcc hrr HP0.out HP1.out HNP.out.1 HNP.out.2 ho
          go_wp2_with fail
          (with_reducible refine HPD.mono ?_)
          clear HPD a0 HP0 HP1 HY
          rintro e w3 ⟨rfl, hr3⟩
          have HX := Lib.hid hr3
          clear hr3
          have hfz := (HX.out.vars (bo, [.int .i64 0, .bool false, .int .i64 0, .int .u64 0, .slice none 0 0]) (by simp)).1.2.2 1 (by simp)
          have hcz := (HX.out.vars (bo, [.int .i64 0, .bool false, .int .i64 0, .int .u64 0, .slice none 0 0]) (by simp)).1.2.1 1 _ rfl
          have hbz := (HX.out.vars (bo, [.int .i64 0, .bool false, .int .i64 0, .int .u64 0, .slice none 0 0]) (by simp)).1.1
          go_upto_region 34 with fail
          refine gen_w (P := fun W => Code.wp _ _ _ _ W) (fun z => RunX w b0 b1 B0 c n r (.slice vA k vcap) hs [(bo, [.int .i64 0, .bool false, .int .i64 0, .int .u64 0, .slice none 0 0]), (bp, [.int .i64 19, .int .i64 0, .int .i64 0, .int .u64 0])] G5 G z) (HX.out.set0 1 (.bool false) (by decide) (fun p hp => by simp only [List.mem_singleton] at hp; subst hp; have := HFA.out.2; show bp ≠ bo; omega)) ?_
          rintro z hz
          clear HX hfz hcz hbz
          have HX := Lib.hid hz
          clear hz
          have HAL : ∀ (A : Option Addr) (ka : Nat) (R : Option Addr) (ra : Nat) (S : Option Addr) (sa : Nat) (w : World), Hid (AtW w A n G) → Hid (StmsAt w R 2 (zerosS 2)) → Hid (StmsAt w S 2 (zerosS 2)) →
              Calls Try.prog 16 #[.agg #[.int .i64 2, .int .i64 (c : Int), .slice A n ka, .int .u64 (r : Int), .slice R 2 ra, .slice S 2 sa], .int .i64 (me : Int), .agg #[.int .i64 19, .int .i64 0, .int .i64 0, .int .u64 0], .int .i64 300] w (AloneEndE w 2 (c : Int) A n r R S 2 G5 (zerosS 2) (zerosS 2) 0 false 0) := by
            have h := HOPS me 19 0 0 0 false 0 G G5 300 300 hme ho (Nat.le_refl _) (by decide) (by decide) rfl rfl rfl
            rw [HN.out] at h
            exact h
          have HVO := Lib.hid (HX.out.vars (bo, [.int .i64 0, .bool false, .int .i64 0, .int .u64 0, .slice none 0 0]) (by simp)).1
          have HVP := Lib.hid (HX.out.vars (bp, [.int .i64 19, .int .i64 0, .int .i64 0, .int .u64 0]) (by simp)).1
          have HX0 := Lib.hid (HX.out.less (L' := []) (fun p hp => by cases hp))
          have HOLD := Lib.hid HX0.out.old
          have HWD := Lib.hid HX0.out.run
          have BB := Lib.hid HX0.out.below
          have hltx := HX0.out.lt
          have hszx := HX0.out.size
          have g0 := HVP.out.2.1 0 _ rfl
          have g1 := HVP.out.2.1 1 _ rfl
          have g2 := HVP.out.2.1 2 _ rfl
          have g3 := HVP.out.2.1 3 _ rfl
          clear HX ho
          obtain ⟨A1, ka1, R1, ra1, S1, sa1, hW, o0, o1, o2, _⟩ := HWD.out
          have W1 := Lib.hid hW
          have O1 := Lib.hid (And.intro o0 (And.intro o1 o2))
          obtain ⟨c0, c1, c2, c3, c4, c5⟩ := hW.cells
          have HGlt := Lib.hid hW.1.1
          clear hW o0 o1 o2
          clear HWD
          go_wp2_with fail
          (with_reducible refine (HAL A1 ka1 R1 ra1 S1 sa1 _ W1.out.gA W1.out.g0 W1.out.g1).mono ?_)
          clear HAL c0 c1 c2 c3 c4 c5 g0 g1 g2 g3 HVP
          rintro e w5 ⟨A5, ka5, R5, ra5, S5, sa5, rfl, ha, hs0, hs1, hb, hP⟩
          go_upto_region 35 with fail
          have hbx : Below w5.heap.size w5 ((w5.alloc (.cells #[.int .i64 2, .int .i64 (c : Int), .slice A5 n ka5, .int .u64 (r : Int), .slice R5 2 ra5, .slice S5 2 sa5] 51)).alloc (.cells #[.int .i64 0, .bool false, .int .i64 0, .int .u64 0, .slice none 0 0] 37)) := below_pair _ _ _
          have W5 := Lib.hid (WdAt.made (t := 2) (c := (c : Int)) (k := ka5) (r := r) (ra := ra5) (sa := sa5) w5 (.cells #[.int .i64 0, .bool false, .int .i64 0, .int .u64 0, .slice none 0 0] 37) 51 ha hs0 hs1)
          have O5 := Lib.hid (VarAt.made1 w5 (.cells #[.int .i64 2, .int .i64 (c : Int), .slice A5 n ka5, .int .u64 (r : Int), .slice R5 2 ra5, .slice S5 2 sa5] 51) #[.int .i64 0, .bool false, .int .i64 0, .int .u64 0, .slice none 0 0] 37)
          have hbn := hb.trans (hbx.mono hb.size)
          have HS5 := Lib.hid (And.intro hs0 hs1)
          have HX5 := Lib.hid hbx
          have HB5 := Lib.hid hb
          have HP5 := Lib.hid hP
          generalize (w5.alloc (.cells #[.int .i64 2, .int .i64 (c : Int), .slice A5 n ka5, .int .u64 (r : Int), .slice R5 2 ra5, .slice S5 2 sa5] 51)).alloc (.cells #[.int .i64 0, .bool false, .int .i64 0, .int .u64 0, .slice none 0 0] 37) = x5 at hbx hbn W5 O5 HX5 ⊢
          have HVOn := Lib.hid (HVO.out.below hbn); clear HVO; have HVO := HVOn; clear HVOn
          have HX0n := Lib.hid (HX0.out.later hbn); clear HX0; have HX0 := HX0n; clear HX0n
          have BBn := Lib.hid (BB.out.trans (hbn.mono BB.out.size)); clear BB; have BB := BBn; clear BBn
          clear ha hs0 hs1 hb hP hbx hbn
          obtain ⟨_, ⟨p1', p2', p3', p4', p5'⟩, _⟩ := O5.out.five
          obtain ⟨_, ⟨v1', v2', v3', v4', v5'⟩, _⟩ := HVO.out.five
          have OF5 : Hid (OffW (NtX b0 b1 (.slice vA k vcap) []) A5 n ∧ OffS (NtX b0 b1 (.slice vA k vcap) []) x5 R5 2 ∧ OffS (NtX b0 b1 (.slice vA k vcap) []) x5 S5 2) := Lib.hid (by
            obtain ⟨q0, q1, q2⟩ := HP5.out (NtX b0 b1 (.slice vA k vcap) []) ⟨HOLD.out, O1.out.1, O1.out.2.1, O1.out.2.2⟩
            exact ⟨q0, q1.later HS5.out.1 HX5.out, q2.later HS5.out.2 HX5.out⟩)
          have hnb : ¬ (w5.heap.size = b1) := by have := HB5.out.size; omega
          clear HP5 HS5 HX5 HB5 W1 O1 HGlt HOLD
          go_wp2_with fail
          (with_reducible refine (outsI_same _ _ _ _ _).mono ?_)
          rintro e w9 ⟨rfl, hb9⟩
          have W9 := Lib.hid (W5.out.later hb9)
          have OF9 := Lib.hid (And.intro OF5.out.1 (And.intro (OF5.out.2.1.later W5.out.2.2.1 hb9) (OF5.out.2.2.later W5.out.2.2.2 hb9)))
          have HX9 := Lib.hid (HX0.out.later hb9)
          clear W5 OF5 HX0 O5 HVO hb9 BB p1' p2' p3' p4' p5' v1' v2' v3' v4' v5'
          obtain ⟨_, ⟨e0, e1, e2, e3, e4, e5⟩, _⟩ := W9.out.1.six
          obtain ⟨A8, ka8, R8, ra8, S8, sa8, hW8, _⟩ := HX9.out.run
          obtain ⟨zx, ⟨y0, y1, y2, y3, y4, y5⟩, f0, f1, f2, f3, f4, f5⟩ := hW8.1.six
          have HOWN := Lib.hid HX9.out.own
          have hbb := HX9.out.below
          have nb' : ¬ (b1 = w5.heap.size) := fun e => hnb e.symm
          clear hW8
          go_wp2_with fail
          go_roundw
          case rel => exact ⟨i + 1, G5, hs, by omega, by go_num, HED2.out, (HX9.out.put (by repeat (first | with_reducible exact Keep.refl _ _ | with_reducible refine Keep.drew ?_ | with_reducible refine Keep.alloc ?_ _ | (with_reducible refine Keep.set ?_ _ _ _ (ntx1 _ _ _ _ _)))) (fun b vs hne h => (((((h.apart _ _ (Ne.symm hne)).apart _ _ (Ne.symm hne)).apart _ _ (Ne.symm hne)).apart _ _ (Ne.symm hne)).apart _ _ (Ne.symm hne)).apart _ _ (Ne.symm hne)) (by repeat (first | with_reducible assumption | with_reducible refine Below.drew ?_ | with_reducible refine below_al ?_ | (with_reducible refine below_set1 (by omega) _ ?_))) (by repeat (first | with_reducible exact HOWN.out | (with_reducible refine OwnI.apart ?_ _ _ _ (by omega)))) ⟨A5, ka5, R5, ra5, S5, sa5, ⟨VarAt.of6 (by simp; omega) (by go_simp) (by go_simp) (by go_simp) (by go_simp) (by go_simp) (by go_simp) (by go_simp) (by go_simp) (by go_simp) (by go_simp) (by go_simp) (by go_simp), W9.out.2.1.keep (Q := NtX b0 b1 (.slice vA k vcap) []) (by repeat (first | with_reducible exact Keep.refl _ _ | with_reducible refine Keep.drew ?_ | with_reducible refine Keep.alloc ?_ _ | (with_reducible refine Keep.set ?_ _ _ _ (ntx1 _ _ _ _ _)))) OF9.out.1, W9.out.2.2.1.keep (Q := NtX b0 b1 (.slice vA k vcap) []) (by repeat (first | with_reducible exact Keep.refl _ _ | with_reducible refine Keep.drew ?_ | with_reducible refine Keep.alloc ?_ _ | (with_reducible refine Keep.set ?_ _ _ _ (ntx1 _ _ _ _ _)))) OF9.out.2.1, W9.out.2.2.2.keep (Q := NtX b0 b1 (.slice vA k vcap) []) (by repeat (first | with_reducible exact Keep.refl _ _ | with_reducible refine Keep.drew ?_ | with_reducible refine Keep.alloc ?_ _ | (with_reducible refine Keep.set ?_ _ _ _ (ntx1 _ _ _ _ _)))) OF9.out.2.2⟩, OF9.out.1, OF9.out.2.1.keep W9.out.2.2.1 (Q := NtX b0 b1 (.slice vA k vcap) []) (by repeat (first | with_reducible exact Keep.refl _ _ | with_reducible refine Keep.drew ?_ | with_reducible refine Keep.alloc ?_ _ | (with_reducible refine Keep.set ?_ _ _ _ (ntx1 _ _ _ _ _)))) OF9.out.2.1, OF9.out.2.2.keep W9.out.2.2.2 (Q := NtX b0 b1 (.slice vA k vcap) []) (by repeat (first | with_reducible exact Keep.refl _ _ | with_reducible refine Keep.drew ?_ | with_reducible refine Keep.alloc ?_ _ | (with_reducible refine Keep.set ?_ _ _ _ (ntx1 _ _ _ _ _)))) OF9.out.2.2, fun P h => h.elim⟩)⟩
          case measure => simp [intOf]; omega
        · have HPD : Calls Try.prog 25 #[dirW p0 p1, .int .i64 2] y (fun e w' => e = .returned (.bool true) ∧ RunX w b0 b1 B0 c n r (.slice vA k vcap) hs [(bo, [.int .i64 0, .bool false, .int .i64 0, .int .u64 0, .slice none 0 0]), (bp, [.int .i64 19, .int .i64 0, .int .i64 0, .int .u64 0])] G5 G w') := by
            have hcc : c ≤ 65536 := by have := HCK.out; omega
            have hrr := HY.out
            have hnn := HN.out
            rw [← hnn] at hrr ⊢
            exact advanceD hcc hrr HP0.out HP1.out HNP.out.1 HNP.out.2 ho
          go_wp2_with fail
          (with_reducible refine HPD.mono ?_)
          clear HPD a0 HP0 HP1 HY
          rintro e w3 ⟨rfl, hr3⟩
          have HX := Lib.hid hr3
          clear hr3
          have hfz := (HX.out.vars (bo, [.int .i64 0, .bool false, .int .i64 0, .int .u64 0, .slice none 0 0]) (by simp)).1.2.2 1 (by simp)
          have hcz := (HX.out.vars (bo, [.int .i64 0, .bool false, .int .i64 0, .int .u64 0, .slice none 0 0]) (by simp)).1.2.1 1 _ rfl
          have hbz := (HX.out.vars (bo, [.int .i64 0, .bool false, .int .i64 0, .int .u64 0, .slice none 0 0]) (by simp)).1.1
          go_upto_region 34 with fail
          refine gen_w (P := fun W => Code.wp _ _ _ _ W) (fun z => RunX w b0 b1 B0 c n r (.slice vA k vcap) hs [(bo, [.int .i64 0, .bool true, .int .i64 0, .int .u64 0, .slice none 0 0]), (bp, [.int .i64 19, .int .i64 0, .int .i64 0, .int .u64 0])] G5 G z) (HX.out.set0 1 (.bool true) (by decide) (fun p hp => by simp only [List.mem_singleton] at hp; subst hp; have := HFA.out.2; show bp ≠ bo; omega)) ?_
          rintro z hz
          clear HX hfz hcz hbz
          have HX := Lib.hid hz
          clear hz
          have HAL : ∀ (A : Option Addr) (ka : Nat) (R : Option Addr) (ra : Nat) (S : Option Addr) (sa : Nat) (w : World), Hid (AtW w A n G) → Hid (StmsAt w R 2 (zerosS 2)) → Hid (StmsAt w S 2 (zerosS 2)) →
              Calls Try.prog 16 #[.agg #[.int .i64 2, .int .i64 (c : Int), .slice A n ka, .int .u64 (r : Int), .slice R 2 ra, .slice S 2 sa], .int .i64 (me : Int), .agg #[.int .i64 19, .int .i64 0, .int .i64 0, .int .u64 0], .int .i64 300] w (AloneEndE w 2 (c : Int) A n r R S 2 G5 (zerosS 2) (zerosS 2) 0 true 0) := by
            have h := HOPS me 19 0 1 0 true 0 G G5 300 300 hme ho (Nat.le_refl _) (by decide) (by decide) rfl rfl rfl
            rw [HN.out] at h
            exact h
          have HVO := Lib.hid (HX.out.vars (bo, [.int .i64 0, .bool true, .int .i64 0, .int .u64 0, .slice none 0 0]) (by simp)).1
          have HVP := Lib.hid (HX.out.vars (bp, [.int .i64 19, .int .i64 0, .int .i64 0, .int .u64 0]) (by simp)).1
          have HX0 := Lib.hid (HX.out.less (L' := []) (fun p hp => by cases hp))
          have HOLD := Lib.hid HX0.out.old
          have HWD := Lib.hid HX0.out.run
          have BB := Lib.hid HX0.out.below
          have hltx := HX0.out.lt
          have hszx := HX0.out.size
          have g0 := HVP.out.2.1 0 _ rfl
          have g1 := HVP.out.2.1 1 _ rfl
          have g2 := HVP.out.2.1 2 _ rfl
          have g3 := HVP.out.2.1 3 _ rfl
          clear HX ho
          obtain ⟨A1, ka1, R1, ra1, S1, sa1, hW, o0, o1, o2, _⟩ := HWD.out
          have W1 := Lib.hid hW
          have O1 := Lib.hid (And.intro o0 (And.intro o1 o2))
          obtain ⟨c0, c1, c2, c3, c4, c5⟩ := hW.cells
          have HGlt := Lib.hid hW.1.1
          clear hW o0 o1 o2
          clear HWD
          go_wp2_with fail
          (with_reducible refine (HAL A1 ka1 R1 ra1 S1 sa1 _ W1.out.gA W1.out.g0 W1.out.g1).mono ?_)
          clear HAL c0 c1 c2 c3 c4 c5 g0 g1 g2 g3 HVP
          rintro e w5 ⟨A5, ka5, R5, ra5, S5, sa5, rfl, ha, hs0, hs1, hb, hP⟩
          go_upto_region 35 with fail
          have hbx : Below w5.heap.size w5 ((w5.alloc (.cells #[.int .i64 2, .int .i64 (c : Int), .slice A5 n ka5, .int .u64 (r : Int), .slice R5 2 ra5, .slice S5 2 sa5] 51)).alloc (.cells #[.int .i64 0, .bool true, .int .i64 0, .int .u64 0, .slice none 0 0] 37)) := below_pair _ _ _
          have W5 := Lib.hid (WdAt.made (t := 2) (c := (c : Int)) (k := ka5) (r := r) (ra := ra5) (sa := sa5) w5 (.cells #[.int .i64 0, .bool true, .int .i64 0, .int .u64 0, .slice none 0 0] 37) 51 ha hs0 hs1)
          have O5 := Lib.hid (VarAt.made1 w5 (.cells #[.int .i64 2, .int .i64 (c : Int), .slice A5 n ka5, .int .u64 (r : Int), .slice R5 2 ra5, .slice S5 2 sa5] 51) #[.int .i64 0, .bool true, .int .i64 0, .int .u64 0, .slice none 0 0] 37)
          have hbn := hb.trans (hbx.mono hb.size)
          have HS5 := Lib.hid (And.intro hs0 hs1)
          have HX5 := Lib.hid hbx
          have HB5 := Lib.hid hb
          have HP5 := Lib.hid hP
          generalize (w5.alloc (.cells #[.int .i64 2, .int .i64 (c : Int), .slice A5 n ka5, .int .u64 (r : Int), .slice R5 2 ra5, .slice S5 2 sa5] 51)).alloc (.cells #[.int .i64 0, .bool true, .int .i64 0, .int .u64 0, .slice none 0 0] 37) = x5 at hbx hbn W5 O5 HX5 ⊢
          have HVOn := Lib.hid (HVO.out.below hbn); clear HVO; have HVO := HVOn; clear HVOn
          have HX0n := Lib.hid (HX0.out.later hbn); clear HX0; have HX0 := HX0n; clear HX0n
          have BBn := Lib.hid (BB.out.trans (hbn.mono BB.out.size)); clear BB; have BB := BBn; clear BBn
          clear ha hs0 hs1 hb hP hbx hbn
          obtain ⟨_, ⟨p1', p2', p3', p4', p5'⟩, _⟩ := O5.out.five
          obtain ⟨_, ⟨v1', v2', v3', v4', v5'⟩, _⟩ := HVO.out.five
          have OF5 : Hid (OffW (NtX b0 b1 (.slice vA k vcap) []) A5 n ∧ OffS (NtX b0 b1 (.slice vA k vcap) []) x5 R5 2 ∧ OffS (NtX b0 b1 (.slice vA k vcap) []) x5 S5 2) := Lib.hid (by
            obtain ⟨q0, q1, q2⟩ := HP5.out (NtX b0 b1 (.slice vA k vcap) []) ⟨HOLD.out, O1.out.1, O1.out.2.1, O1.out.2.2⟩
            exact ⟨q0, q1.later HS5.out.1 HX5.out, q2.later HS5.out.2 HX5.out⟩)
          have hnb : ¬ (w5.heap.size = b1) := by have := HB5.out.size; omega
          clear HP5 HS5 HX5 HB5 W1 O1 HGlt HOLD
          go_wp2_with fail
          (with_reducible refine (outsI_same _ _ _ _ _).mono ?_)
          rintro e w9 ⟨rfl, hb9⟩
          have W9 := Lib.hid (W5.out.later hb9)
          have OF9 := Lib.hid (And.intro OF5.out.1 (And.intro (OF5.out.2.1.later W5.out.2.2.1 hb9) (OF5.out.2.2.later W5.out.2.2.2 hb9)))
          have HX9 := Lib.hid (HX0.out.later hb9)
          clear W5 OF5 HX0 O5 HVO hb9 BB p1' p2' p3' p4' p5' v1' v2' v3' v4' v5'
          obtain ⟨_, ⟨e0, e1, e2, e3, e4, e5⟩, _⟩ := W9.out.1.six
          obtain ⟨A8, ka8, R8, ra8, S8, sa8, hW8, _⟩ := HX9.out.run
          obtain ⟨zx, ⟨y0, y1, y2, y3, y4, y5⟩, f0, f1, f2, f3, f4, f5⟩ := hW8.1.six
          have HOWN := Lib.hid HX9.out.own
          have hbb := HX9.out.below
          have nb' : ¬ (b1 = w5.heap.size) := fun e => hnb e.symm
          clear hW8
          go_wp2_with fail
          go_roundw
          case rel => exact ⟨i + 1, G5, hs, by omega, by go_num, HED2.out, (HX9.out.put (by repeat (first | with_reducible exact Keep.refl _ _ | with_reducible refine Keep.drew ?_ | with_reducible refine Keep.alloc ?_ _ | (with_reducible refine Keep.set ?_ _ _ _ (ntx1 _ _ _ _ _)))) (fun b vs hne h => (((((h.apart _ _ (Ne.symm hne)).apart _ _ (Ne.symm hne)).apart _ _ (Ne.symm hne)).apart _ _ (Ne.symm hne)).apart _ _ (Ne.symm hne)).apart _ _ (Ne.symm hne)) (by repeat (first | with_reducible assumption | with_reducible refine Below.drew ?_ | with_reducible refine below_al ?_ | (with_reducible refine below_set1 (by omega) _ ?_))) (by repeat (first | with_reducible exact HOWN.out | (with_reducible refine OwnI.apart ?_ _ _ _ (by omega)))) ⟨A5, ka5, R5, ra5, S5, sa5, ⟨VarAt.of6 (by simp; omega) (by go_simp) (by go_simp) (by go_simp) (by go_simp) (by go_simp) (by go_simp) (by go_simp) (by go_simp) (by go_simp) (by go_simp) (by go_simp) (by go_simp), W9.out.2.1.keep (Q := NtX b0 b1 (.slice vA k vcap) []) (by repeat (first | with_reducible exact Keep.refl _ _ | with_reducible refine Keep.drew ?_ | with_reducible refine Keep.alloc ?_ _ | (with_reducible refine Keep.set ?_ _ _ _ (ntx1 _ _ _ _ _)))) OF9.out.1, W9.out.2.2.1.keep (Q := NtX b0 b1 (.slice vA k vcap) []) (by repeat (first | with_reducible exact Keep.refl _ _ | with_reducible refine Keep.drew ?_ | with_reducible refine Keep.alloc ?_ _ | (with_reducible refine Keep.set ?_ _ _ _ (ntx1 _ _ _ _ _)))) OF9.out.2.1, W9.out.2.2.2.keep (Q := NtX b0 b1 (.slice vA k vcap) []) (by repeat (first | with_reducible exact Keep.refl _ _ | with_reducible refine Keep.drew ?_ | with_reducible refine Keep.alloc ?_ _ | (with_reducible refine Keep.set ?_ _ _ _ (ntx1 _ _ _ _ _)))) OF9.out.2.2⟩, OF9.out.1, OF9.out.2.1.keep W9.out.2.2.1 (Q := NtX b0 b1 (.slice vA k vcap) []) (by repeat (first | with_reducible exact Keep.refl _ _ | with_reducible refine Keep.drew ?_ | with_reducible refine Keep.alloc ?_ _ | (with_reducible refine Keep.set ?_ _ _ _ (ntx1 _ _ _ _ _)))) OF9.out.2.1, OF9.out.2.2.keep W9.out.2.2.2 (Q := NtX b0 b1 (.slice vA k vcap) []) (by repeat (first | with_reducible exact Keep.refl _ _ | with_reducible refine Keep.drew ?_ | with_reducible refine Keep.alloc ?_ _ | (with_reducible refine Keep.set ?_ _ _ _ (ntx1 _ _ _ _ _)))) OF9.out.2.2, fun P h => h.elim⟩)⟩
          case measure => simp [intOf]; omega
    · obtain rfl : ln = i := by omega
      have d1 : decide ((ln : Int) < (ln : Int)) = false := by rw [decide_eq_false_iff_not]; omega
      have d1' : decide (ln < ln) = false := by rw [decide_eq_false_iff_not]; omega
      have hn9 : n ≤ 140737488355328 := by have h1 := HN.out; have h2 := HCK.out; unfold sizeN at h1; omega
      obtain ⟨A1, ka1, R1, ra1, S1, sa1, hW1, _⟩ := HR.out.dir
      have W1 := Lib.hid hW1
      obtain ⟨c0, c1, c2, c3, c4, c5⟩ := hW1.cells
      obtain ⟨A2, ka2, R2, ra2, S2, sa2, hW2, _⟩ := HR.out.run
      have W2 := Lib.hid hW2
      obtain ⟨g0, g1, g2, g3, g4, g5⟩ := hW2.cells
      have HSM := sameW_at 2 (c : Int) A1 A2 n ka1 ka2 G hn9 r R1 2 ra1 S1 2 sa1 R2 ra2 S2 sa2 (zerosS 2) (zerosS 2) wr W1.out.gA W2.out.gA W1.out.g0 W1.out.g1 W2.out.g0 W2.out.g1
      clear hW1 hW2 hn9
      go_wp2_with fail
      (with_reducible refine HSM.mono ?_)
      clear HSM c0 c1 c2 c3 c4 c5 g0 g1 g2 g3 g4 g5
      rintro e w2 ⟨rfl, hb⟩
      have hbb := HR.out.below.trans (hb.mono HR.out.below.size)
      go_wp2_with fail
      go_ret
      exact ⟨rfl, hbb⟩
section
set_option maxRecDepth 100000
set_option maxHeartbeats 2000000
variable {H : Type} {enc : TypeId × Value → H} {w : World}
theorem open_a {v : Value} {d : DataW H} {ps : List MemPlace} {base : Nat} (hval : Value.okWide Try.prog w .any base 5 v) (h : DataW.Trod enc Try.prog w 0 (fun _ => true) true 5 v d ps) (hs : Sized Try.prog 5 d) (hlt : ∀ z ∈ ps, z.block < w.heap.size) :
    ∃ (a : Nat), v = .int .u8 (a : Int) ∧ a < 256 := by
  obtain ⟨a0, rfl⟩ := okWide_int Try.underlying5 hval
  obtain ⟨fuel, hf0⟩ := h
  have hf : DataW.trod enc Try.prog w 0 (fun _ => true) true fuel 5 [.int .u8 a0] = some (d, ps) := hf0
  obtain ⟨a, e0, ha⟩ := leaf_u8 Try.underlying5 hf
  cases e0
  exact ⟨_, rfl, ha⟩
theorem open_b {v : Value} {d : DataW H} {ps : List MemPlace} {base : Nat} (hval : Value.okWide Try.prog w .any base 30 v) (h : DataW.Trod enc Try.prog w 0 (fun _ => true) true 30 v d ps) (hs : Sized Try.prog 30 d) (hlt : ∀ z ∈ ps, z.block < w.heap.size) :
    ∃ (bA : Option Addr) (bL bC : Nat) (bx : List Nat), v = .slice bA bL bC ∧ (bL ≤ bC ∧ bL ≤ 140737488355328 ∧ AtB w bA bL bx) := by
  obtain ⟨a0, len, cap, rfl⟩ := okWide_slice Try.underlying30 hval
  obtain ⟨fuel, hf0⟩ := h
  have hf : DataW.trod enc Try.prog w 0 (fun _ => true) true fuel 30 [.slice a0 len cap] = some (d, ps) := hf0
  obtain ⟨bA, bL, bC, bx, e0, hb⟩ := leaf_bytes hf hs hlt
  cases e0
  exact ⟨_, _, _, _, rfl, hb⟩
end

set_option maxRecDepth 100000 in
set_option maxHeartbeats 8000000 in
theorem lifted (os : Os) (started : os.Started) (H : Type) (enc : TypeId × Value → H) :
    ReturnsInHanded {} Try.checked os 8 .any (Rows.epochDirectSpec.pre6 enc Try.prog Try.f8 Rows.epochDirectRow.domain false) (Rows.epochDirectSpec.post enc Try.prog Try.f8 false true false false) := by
  refine law_lifted (C := Try.checked) own started (by kernel_rfl) Try.func8
    (ChangeSpec.witness6 (enc := enc) (C := Try.checked) false ⟨#[], #[.int .u8 0, .slice none 0 0], []⟩ 8 (by kernel_rfl) (by kernel_rfl) (by kernel_rfl) (by kernel_rfl))
    (by kernel_rfl) (by kernel_rfl) Try.underlying4 rfl (by kernel_rfl) ?_
  intro W base args ds before hval hA hwt hlt
  have hA' : DataW.TrodAll enc Try.prog W 0 (fun _ => true) true Try.f8.params.toList args.toList ds before := hA
  have hval' : ∀ (j : Nat) t v, Try.f8.params[j]? = some t → args[j]? = some v → Value.okWide Try.prog W .any base t v := hval
  have hwt' : (DataW.weightsEach Try.prog Try.f8.params.toList ds).all (· ≤ reachBytes) = true := hwt
  rw [Try.params8] at hA' hval' hwt'
  obtain ⟨v0, vs0, d0, ds0, p0, q0, hargs, rfl, rfl, k0, r0⟩ := trodAll_cons hA'
  obtain ⟨v1, vs1, d1, ds1, p1, q1, rfl, rfl, rfl, k1, r1⟩ := trodAll_cons r0
  obtain ⟨rfl, rfl, rfl⟩ := trodAll_nil r1
  obtain rfl : args = #[v0, v1] := by cases args; simp_all
  obtain ⟨a, rfl, ha⟩ := open_a (hval' 0 5 v0 rfl rfl) k0 (sized_of hwt' (j := 0) (t := 5) rfl rfl) (fun x hx => hlt x (by simp [hx]))
  obtain ⟨bA, bL, bC, bx, rfl, hb⟩ := open_b (hval' 1 30 v1 rfl rfl) k1 (sized_of hwt' (j := 1) (t := 30) rfl rfl) (fun x hx => hlt x (by simp [hx]))
  refine ⟨rfl, ?_⟩
  obtain ⟨hbc, hb9, hbat⟩ := hb
  by_cases hln : bL ≤ 30
  · exact walk a ha bA bL bC bx hln W (Lib.hid hbat)
  · exact walkA a ha bA bL bC bx (by omega) W (Lib.hid hbat)

theorem over : Rows.epochDirectRow.holds Try.pinned (OpenSpec.ofChange Rows.epochDirectSpec) :=
  OpenClaim.holds_of_wide 8 Try.f8 rfl rfl rfl rfl rfl rfl rfl ⟨rfl, rfl, rfl, rfl, rfl⟩ rfl rfl rfl rfl rfl (by kernel_rfl) Try.func8 (by kernel_rfl)
    (of_decide_eq_true (by kernel_rfl)) (by unfold Func.isWrapper; first | (rw [if_pos (by decide +kernel)]; kernel_rfl) | (rw [if_neg (by decide +kernel)]; exact ⟨rfl, rfl⟩))
    (fun os started H enc _ => lifted os started H enc)

/-- The statement. -/
theorem proved : Rows.EpochDirectSaid :=
  over
#print axioms proved
end Go.Proofs.Ythcifknnppohfaa.epochDirect
