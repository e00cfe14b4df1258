/-
  AccessStreams: a thread's own stream is its own: what others append, and sync, turns it not; what it appended, synced, outlasts a crash, and what it only appended may not; for 20 accesses of two threads. No condition beyond the statement's own.
-/
import Derived.Test.YtjbhichgojjakaaAccShown
import Derived.Test.YtjbhichgojjakaaAccLeaf
import Derived.Test.YtjbhichgojjakaaAccStrm
import Derived.Test.YtjbhichgojjakaaAfter
import Derived.Test.YtjbhichgojjakaaLaw
import Derived.Test.YtjbhichgojjakaaFields
import Derived.Deep.Cut
import Derived.Deep.CutRange
import Derived.Deep.RegionHeld3
namespace Go.Proofs.Ytjbhichgojjakaa.accessStreams
open Go.ChangeShapes Go.WideShapes Go.ChangeAt Go.RowKit Go.Deep Go.BigFrame
set_option linter.unusedVariables false
theorem own : ownKnob Try.prog.godebug = none := by kernel_rfl

theorem strm_new (w : World) : Calls Try.prog 9 #[.int .i64 2, .int .i64 0] w (NewWd w 2 0 10 (newF 2 0)) := newWd_at 2 0 (by decide) (by decide) (by decide) w

set_option maxRecDepth 100000 in
set_option maxHeartbeats 16000000 in
theorem walkA (A : Option Addr) (n cap : Nat) (ll : List (List Nat)) (Y : Option Addr) (yn yc : Nat) (fs : Nat → Bool) (M : Option Addr) (mn mc : Nat) (g : List Nat) (h1 : 20 < n) (w : World) (hA : Hid (RwsAt w A n ll)) (hY : Hid (BlsAt w Y yn fs)) (hM : Hid (AtB w M mn g)) :
    Calls Try.prog 3 #[.slice A n cap, .slice Y yn yc, .slice M mn mc] w fun e w' => e = .returned (.bool true) ∧ Below w.heap.size w w' := by
  have d1 : decide ((20 : Int) < (n : Int)) = true := by rw [decide_eq_true_iff]; omega
  go_enter Try.func3, Try.ntmps3
  go_wp2_with fail
  (with_reducible refine (shown_any _).mono ?_)
  rintro e w1 ⟨rfl, hb⟩
  have BB := Lib.hid hb
  have HA1 := Lib.hid (hA.out.later hb)
  have HY1 := Lib.hid (hY.out.later hb)
  have HM1 := Lib.hid (AtB.later hM hb)
  clear hb hA hY hM
  go_wp2_with fail
  go_ret
  exact ⟨rfl, BB.out⟩

set_option maxRecDepth 100000 in
set_option maxHeartbeats 16000000 in
theorem walkB (A : Option Addr) (n cap : Nat) (ll : List (List Nat)) (Y : Option Addr) (yn yc : Nat) (fs : Nat → Bool) (M : Option Addr) (mn mc : Nat) (g : List Nat) (h1 : n ≤ 20) (h2 : yn < n) (w : World) (hA : Hid (RwsAt w A n ll)) (hY : Hid (BlsAt w Y yn fs)) (hM : Hid (AtB w M mn g)) :
    Calls Try.prog 3 #[.slice A n cap, .slice Y yn yc, .slice M mn mc] w fun e w' => e = .returned (.bool true) ∧ Below w.heap.size w w' := by
  have d1 : decide ((20 : Int) < (n : Int)) = false := by rw [decide_eq_false_iff_not]; omega
  have d2 : decide ((yn : Int) < (n : Int)) = true := by rw [decide_eq_true_iff]; omega
  have d2' : decide (yn < n) = true := by rw [decide_eq_true_iff]; omega
  go_enter Try.func3, Try.ntmps3
  go_wp2_with fail
  (with_reducible refine (shown_any _).mono ?_)
  rintro e w1 ⟨rfl, hb⟩
  have BB := Lib.hid hb
  have HA1 := Lib.hid (hA.out.later hb)
  have HY1 := Lib.hid (hY.out.later hb)
  have HM1 := Lib.hid (AtB.later hM hb)
  clear hb hA hY hM
  go_wp2_with fail
  go_ret
  exact ⟨rfl, BB.out⟩

set_option maxRecDepth 100000 in
set_option maxHeartbeats 16000000 in
theorem walkC (A : Option Addr) (n cap : Nat) (ll : List (List Nat)) (Y : Option Addr) (yn yc : Nat) (fs : Nat → Bool) (M : Option Addr) (mn mc : Nat) (g : List Nat) (h1 : n ≤ 20) (h2 : n ≤ yn) (h3 : mn < n) (w : World) (hA : Hid (RwsAt w A n ll)) (hY : Hid (BlsAt w Y yn fs)) (hM : Hid (AtB w M mn g)) :
    Calls Try.prog 3 #[.slice A n cap, .slice Y yn yc, .slice M mn mc] w fun e w' => e = .returned (.bool true) ∧ Below w.heap.size w w' := by
  have d1 : decide ((20 : Int) < (n : Int)) = false := by rw [decide_eq_false_iff_not]; omega
  have d2 : decide ((yn : Int) < (n : Int)) = false := by rw [decide_eq_false_iff_not]; omega
  have d2' : decide (yn < n) = false := by rw [decide_eq_false_iff_not]; omega
  have d3 : decide ((mn : Int) < (n : Int)) = true := by rw [decide_eq_true_iff]; omega
  have d3' : decide (mn < n) = true := by rw [decide_eq_true_iff]; omega
  go_enter Try.func3, Try.ntmps3
  go_wp2_with fail
  (with_reducible refine (shown_any _).mono ?_)
  rintro e w1 ⟨rfl, hb⟩
  have BB := Lib.hid hb
  have HA1 := Lib.hid (hA.out.later hb)
  have HY1 := Lib.hid (hY.out.later hb)
  have HM1 := Lib.hid (AtB.later hM hb)
  clear hb hA hY hM
  go_wp2_with fail
  go_ret
  exact ⟨rfl, BB.out⟩

set_option maxRecDepth 100000 in
set_option maxHeartbeats 16000000 in
theorem walk (A : Option Addr) (n cap : Nat) (ll : List (List Nat)) (Y : Option Addr) (yn yc : Nat) (fs : Nat → Bool) (M : Option Addr) (mn mc : Nat) (g : List Nat) (h1 : n ≤ 20) (h2 : n ≤ yn) (h3 : n ≤ mn) (w : World) (hA : Hid (RwsAt w A n ll)) (hY : Hid (BlsAt w Y yn fs)) (hM : Hid (AtB w M mn g)) :
    Calls Try.prog 3 #[.slice A n cap, .slice Y yn yc, .slice M mn mc] w fun e w' => e = .returned (.bool true) ∧ Below w.heap.size w w' := by
  have d1 : decide ((20 : Int) < (n : Int)) = false := by rw [decide_eq_false_iff_not]; omega
  have d2 : decide ((yn : Int) < (n : Int)) = false := by rw [decide_eq_false_iff_not]; omega
  have d2' : decide (yn < n) = false := by rw [decide_eq_false_iff_not]; omega
  have d3 : decide ((mn : Int) < (n : Int)) = false := by rw [decide_eq_false_iff_not]; omega
  have d3' : decide (mn < n) = false := by rw [decide_eq_false_iff_not]; omega
  go_enter Try.func3, Try.ntmps3
  go_wp2_with fail
  (with_reducible refine (shown_any _).mono ?_)
  rintro e w1 ⟨rfl, hb⟩
  have BB := Lib.hid hb
  have HA1 := Lib.hid (hA.out.later hb)
  have HY1 := Lib.hid (hY.out.later hb)
  have HM1 := Lib.hid (AtB.later hM hb)
  clear hb hA hY hM
  go_wp2_with fail
  (with_reducible refine (strm_new _).mono ?_)
  rintro e w2 ⟨A2, ka2, R2, ra2, S2, sa2, rfl, ha, hs0, hs1, hb, hP⟩
  go_upto_region 7 with fail
  have RUN : Hid (RunT w1 w2.heap.size (w2.heap.size + 1) (w2.heap.size + 1 + 1) 0 (fun _ => []) (fun _ => 0) (((w2.alloc (.cells #[.int .i64 2, .int .i64 0, .slice A2 10 ka2, .int .u64 0, .slice R2 2 ra2, .slice S2 2 sa2] 35)).alloc (.cells #[.string { data := #[] }, .string { data := #[] }] 9)).alloc (.cells #[.string { data := #[] }, .string { data := #[] }] 9))) := Lib.hid (by
    have hbx : Below w2.heap.size w2 (((w2.alloc (.cells #[.int .i64 2, .int .i64 0, .slice A2 10 ka2, .int .u64 0, .slice R2 2 ra2, .slice S2 2 sa2] 35)).alloc (.cells #[.string { data := #[] }, .string { data := #[] }] 9)).alloc (.cells #[.string { data := #[] }, .string { data := #[] }] 9)) := below_al (below_al (al_below _ _))
    obtain ⟨o0, o1, o2⟩ := hP (fun b => w1.heap.size ≤ b) (fun b hb => hb)
    have hz := hb.size
    refine ⟨hb.trans (hbx.mono hb.size), by omega, ⟨A2, ka2, R2, ra2, S2, sa2, newF 2 0, ⟨(VarAt.made w2 _ _).below (below_pair _ _ _), ha.later hbx, hs0.later hbx, hs1.later hbx⟩, ?_, ?_, ?_⟩, ?_, ?_, fun k hk => ⟨Nat.zero_le _, Nat.le_refl _⟩⟩
    · exact fun hp b off e => by have := ha.old hp b off e; unfold N3; omega
    · exact (hs0.old.mono fun b hb => by unfold N3; omega).later hs0 hbx
    · exact (hs1.old.mono fun b hb => by unfold N3; omega).later hs1 hbx
    · exact VarAt.below (VarAt.made1 w2 (.cells #[.int .i64 2, .int .i64 0, .slice A2 10 ka2, .int .u64 0, .slice R2 2 ra2, .slice S2 2 sa2] 35) #[.string { data := #[] }, .string { data := #[] }] 9) (al_below _ _)
    · have h := VarAt.made1 (w2.alloc (.cells #[.int .i64 2, .int .i64 0, .slice A2 10 ka2, .int .u64 0, .slice R2 2 ra2, .slice S2 2 sa2] 35)) (.cells #[.string { data := #[] }, .string { data := #[] }] 9) #[.string { data := #[] }, .string { data := #[] }] 9
      rw [show (w2.alloc (.cells #[.int .i64 2, .int .i64 0, .slice A2 10 ka2, .int .u64 0, .slice R2 2 ra2, .slice S2 2 sa2] 35)).heap.size = w2.heap.size + 1 by simp] at h
      exact h)
  generalize (((w2.alloc (.cells #[.int .i64 2, .int .i64 0, .slice A2 10 ka2, .int .u64 0, .slice R2 2 ra2, .slice S2 2 sa2] 35)).alloc (.cells #[.string { data := #[] }, .string { data := #[] }] 9)).alloc (.cells #[.string { data := #[] }, .string { data := #[] }] 9)) = x2 at RUN ⊢
  clear ha hs0 hs1 hb hP
  obtain ⟨gw, hgw⟩ : ∃ x, w2.heap.size = x := ⟨_, rfl⟩
  obtain ⟨go, hgo⟩ : ∃ x, gw + 1 = x := ⟨_, rfl⟩
  obtain ⟨gs, hgs⟩ : ∃ x, go + 1 = x := ⟨_, rfl⟩
  rw [hgw, hgo, hgs] at RUN ⊢
  clear hgw hgo hgs
  go_wp2_with fail
  go_loopw [11] (fun u11 wr => ∃ (j : Nat) (o : Nat → List Nat) (q : Nat → Nat), j ≤ n ∧ u11 = .int .i64 (j : Int) ∧ RunT w1 gw go gs j o q wr) (fun i _ => n - (intOf i).toNat)
  case atStart => exact ⟨0, fun _ => [], fun _ => 0, Nat.zero_le _, rfl, RUN.out⟩
  case round =>
    obtain ⟨j, o, q, hj, rfl, hrun⟩ := hrel
    have HR := Lib.hid hrun
    clear hrun RUN
    by_cases hlt : j < n
    · have i1 : (0 : Int) ≤ (j : Int) := by omega
      have i2 : (j : Int) < (n : Int) := by omega
      have i3 : (j : Int) < (mn : Int) := by omega
      have i4 : (j : Int) < (yn : Int) := by omega
      have e1 : decide ((j : Int) < (n : Int)) = true := by rw [decide_eq_true_iff]; omega
      have e1' : decide (j < n) = true := by rw [decide_eq_true_iff]; omega
      have HB1 := Lib.hid HR.out.below
      obtain ⟨ys, hys⟩ : ∃ x, ll[j]? = some x := ⟨_, List.getElem?_eq_getElem (show j < ll.length by have := HA1.out.1; omega)⟩
      obtain ⟨bl, ol, D, dc, rfl, hbl, hcl, _, hym, hyb⟩ := HA1.out.at_ j ys hys
      obtain ⟨b2, o2, rfl, hl2, hc2⟩ := HM1.out.2.2.2 (by omega)
      obtain ⟨b3, o3, rfl, hl3, hc3⟩ := HY1.out.2 (by omega)
      have HRL : Hid (∀ w', Below w1.heap.size w1 w' → w'.cell? ⟨bl, ol + j, none⟩ = some (.slice D ys.length dc)) := Lib.hid (fun w' hb => (hb.cell (p := ⟨bl, ol + j, none⟩) hbl).trans hcl)
      have HRM : Hid (∀ w', Below w1.heap.size w1 w' → w'.cell? ⟨b2, o2 + j, none⟩ = some (.int .u8 ((g.getD j 0 : Nat) : Int))) := Lib.hid (fun w' hb => (hb.cell (p := ⟨b2, o2 + j, none⟩) hl2).trans (hc2 j (by omega)))
      have HRS : Hid (∀ w', Below w1.heap.size w1 w' → w'.cell? ⟨b3, o3 + j, none⟩ = some (.bool (fs j))) := Lib.hid (fun w' hb => (hb.cell (p := ⟨b3, o3 + j, none⟩) hl3).trans (hc3 j (by omega)))
      have HYB : Hid (∀ w', Below w1.heap.size w1 w' → AtB w' D ys.length ys) := Lib.hid (fun w' hb => AtB.later (Lib.hid hyb) hb)
      have HBL : Hid (bl < w1.heap.size) := Lib.hid hbl
      have hgk : g.getD j 0 < 256 := by
        have hmem := HM1.out.2.1
        rw [List.getD_eq_getElem?_getD, List.getElem?_eq_getElem (show j < g.length by have := HM1.out.1; omega)]
        exact hmem _ (List.getElem_mem _)
      have m1 := HRL.out wr HB1.out
      have m2 := HRM.out wr HB1.out
      clear hcl hc2 hc3 hl2 hl3 hbl hyb hys
      generalize g.getD j 0 = gk at *
      generalize fs j = fj at *
      by_cases h50 : 50 < ys.length
      · have d4 : decide ((50 : Int) < (ys.length : Int)) = true := by rw [decide_eq_true_iff]; omega
        have d4' : decide (50 < ys.length) = true := by rw [decide_eq_true_iff]; omega
        have BBr := Lib.hid (BB.out.trans (HB1.out.mono BB.out.size))
        go_wp2_with fail
        go_ret
        exact ⟨rfl, BBr.out⟩
      · have d4 : decide ((50 : Int) < (ys.length : Int)) = false := by rw [decide_eq_false_iff_not]; omega
        have d4' : decide (50 < ys.length) = false := by rw [decide_eq_false_iff_not]; omega
        obtain ⟨kk, hkk⟩ : ∃ x, gk % 2 = x := ⟨_, rfl⟩
        have hk2 : kk < 2 := by omega
        have hmod : ((gk : Nat) : Int).tmod 2 = (kk : Int) := by rw [Int.tmod_eq_emod_of_nonneg (by omega)]; omega
        clear hkk
        go_upto_region 13 with fail
        obtain ⟨A3, ka3, R3, ra3, S3, sa3, G3, hW3, o0, o1, o2⟩ := HR.out.run
        have HW3 := Lib.hid hW3
        have HO := Lib.hid (And.intro o0 (And.intro o1 o2))
        have HDO := fun w => strm_append A3 10 ka3 G3 R3 S3 ra3 sa3 o q kk hk2 D dc ys (by have := (HR.out.len kk hk2).1; omega) w
        have HSZ : Hid (gw < wr.heap.size ∧ go < wr.heap.size ∧ gs < wr.heap.size) := Lib.hid ⟨hW3.1.1, HR.out.own.1, HR.out.safe.1⟩
        have rL : ∀ w', Below wr.heap.size wr w' → w'.cell? ⟨bl, ol + j, none⟩ = some (.slice D ys.length dc) := fun w' hb => HRL.out w' (HB1.out.trans (hb.mono HB1.out.size))
        have HYr : ∀ w', Below wr.heap.size wr w' → AtB w' D ys.length ys := fun w' hb => HYB.out w' (HB1.out.trans (hb.mono HB1.out.size))
        have rC0 : ∀ w', Below wr.heap.size wr w' → w'.cell? ⟨gw, 0, none⟩ = some (.int .i64 2) := fun w' hb => (HW3.out.later hb).cells.1
        have rC1 : ∀ w', Below wr.heap.size wr w' → w'.cell? ⟨gw, 1, none⟩ = some (.int .i64 0) := fun w' hb => (HW3.out.later hb).cells.2.1
        have rC2 : ∀ w', Below wr.heap.size wr w' → w'.cell? ⟨gw, 2, none⟩ = some (.slice A3 10 ka3) := fun w' hb => (HW3.out.later hb).cells.2.2.1
        have rC3 : ∀ w', Below wr.heap.size wr w' → w'.cell? ⟨gw, 3, none⟩ = some (.int .u64 0) := fun w' hb => (HW3.out.later hb).cells.2.2.2.1
        have rC4 : ∀ w', Below wr.heap.size wr w' → w'.cell? ⟨gw, 4, none⟩ = some (.slice R3 2 ra3) := fun w' hb => (HW3.out.later hb).cells.2.2.2.2.1
        have rC5 : ∀ w', Below wr.heap.size wr w' → w'.cell? ⟨gw, 5, none⟩ = some (.slice S3 2 sa3) := fun w' hb => (HW3.out.later hb).cells.2.2.2.2.2
        clear hW3 o0 o1 o2 m1 m2
        have hB0 : Below wr.heap.size wr wr := Below.refl _ _
        go_cut [13, 14] from 44 to 110 (fun s9 s10 wx => TellEnd wr gw go gs 10 G3 (rowO (upd o kk (o kk ++ ys)) q) (zerosS 2) 0 [] s9 s10 wx)
        case first =>
          go_region_held3 (fun w' => Below wr.heap.size wr w') (repeat (first | with_reducible assumption | with_reducible refine Below.drew ?_ | with_reducible refine below_al ?_ | (with_reducible refine below_set1 (by omega) _ ?_)))
            (first | (go_at_call 10; (with_reducible refine (HDO _ (HW3.out.later (by repeat (first | with_reducible assumption | with_reducible refine Below.drew ?_ | with_reducible refine below_al ?_))).gA (HW3.out.later (by repeat (first | with_reducible assumption | with_reducible refine Below.drew ?_ | with_reducible refine below_al ?_))).g0 (HW3.out.later (by repeat (first | with_reducible assumption | with_reducible refine Below.drew ?_ | with_reducible refine below_al ?_))).g1 (Lib.hid (HYr _ (by repeat (first | with_reducible assumption | with_reducible refine Below.drew ?_ | with_reducible refine below_al ?_))))).mono ?_); rintro e w6 ⟨A6, ka6, R6, ra6, S6, sa6, X6, kx6, rfl, ha, hs0, hs1, hk, hxb, hb, hP⟩; have hBw6 : Below wr.heap.size wr w6 := below_step hb (by repeat (first | with_reducible assumption | with_reducible refine Below.drew ?_ | with_reducible refine below_al ?_)); have hz6 := hBw6.size; have HA6 := Lib.hid ha; have HS6 := Lib.hid hs0; have HT6 := Lib.hid hs1; have HQ := Lib.hid (tell_fact (by repeat (first | with_reducible assumption | with_reducible refine Below.drew ?_ | with_reducible refine below_al ?_)) hb hP HW3.out.2.1 HW3.out.2.2.1 HW3.out.2.2.2 HO.out.1 HO.out.2.1 HO.out.2.2 HSZ.out); (try (have VBa : VarAt w6 wr.heap.size [.int .i64 0, .int .i64 0, .slice none 0 0, .int .u64 0, .slice none 0 0, .slice none 0 0] := VarAt.onto hb (VarAt.made wr #[.int .i64 0, .int .i64 0, .slice none 0 0, .int .u64 0, .slice none 0 0, .slice none 0 0] 35) rfl; obtain ⟨_, ⟨va0, va1, va2, va3, va4, va5⟩, wa0, wa1, wa2, wa3, wa4, wa5⟩ := VBa.six)); (try (have VBb : VarAt w6 wr.heap.size [.int .u64 0, .slice none 0 0, .bool false] := VarAt.onto hb (VarAt.made wr #[.int .u64 0, .slice none 0 0, .bool false] 39) rfl; obtain ⟨_, vb0, vb1, vb2, wb0, wb1, wb2⟩ := VBb.three)); (try (have VBc : VarAt w6 (wr.heap.size + 1) [.int .u64 0, .slice none 0 0, .bool false] := VarAt.onto hb (VarAt.made1 wr (.cells #[.int .i64 0, .int .i64 0, .slice none 0 0, .int .u64 0, .slice none 0 0, .slice none 0 0] 35) #[.int .u64 0, .slice none 0 0, .bool false] 39) rfl; obtain ⟨_, vc0, vc1, vc2, wc0, wc1, wc2⟩ := VBc.three)); (try (have VBd : VarAt w6 (wr.heap.size + 1) [.int .i64 0, .int .i64 0, .slice none 0 0, .int .u64 0, .slice none 0 0, .slice none 0 0] := VarAt.onto hb (VarAt.made1 wr (.cells #[.int .u64 0, .slice none 0 0, .bool false] 39) #[.int .i64 0, .int .i64 0, .slice none 0 0, .int .u64 0, .slice none 0 0, .slice none 0 0] 35) rfl; obtain ⟨_, ⟨vd0, vd1, vd2, vd3, vd4, vd5⟩, wd0, wd1, wd2, wd3, wd4, wd5⟩ := VBd.six)); (try (have VBe : VarAt w6 wr.heap.size [.int .i64 0, .int .i64 0, .slice none 0 0, .int .u64 0, .slice none 0 0, .slice none 0 0] := VarAt.onto hb ((VarAt.made wr #[.int .i64 0, .int .i64 0, .slice none 0 0, .int .u64 0, .slice none 0 0, .slice none 0 0] 35).below (al_below _ (.cells #[.int .u64 0, .slice none 0 0, .bool false] 39))) rfl; obtain ⟨_, ⟨ve0, ve1, ve2, ve3, ve4, ve5⟩, we0, we1, we2, we3, we4, we5⟩ := VBe.six)); (try (have VBf : VarAt w6 wr.heap.size [.int .u64 0, .slice none 0 0, .bool false] := VarAt.onto hb ((VarAt.made wr #[.int .u64 0, .slice none 0 0, .bool false] 39).below (al_below _ (.cells #[.int .i64 0, .int .i64 0, .slice none 0 0, .int .u64 0, .slice none 0 0, .slice none 0 0] 35))) rfl; obtain ⟨_, vf0, vf1, vf2, wf0, wf1, wf2⟩ := VBf.three)); clear ha hs0 hs1 hk hxb hb hP))
          all_goals
            go_wp2_with fail
            go_meet
            obtain ⟨N2, hN2, hN3, hN4, q0, q1, q2⟩ := HQ.out
            simp at hN2
            exact TellEnd.of (N2 := N2) (w4 := w6) (ka := ka6) (ra := ra6) (sa := sa6) (X := X6) (kx := kx6) (by repeat (first | with_reducible exact Keep.refl _ _ | with_reducible refine Keep.drew ?_ | with_reducible refine Keep.alloc ?_ _ | (with_reducible refine Keep.set ?_ _ _ _ (by unfold Q3; omega)))) (by omega) (by omega) (VarAt.of6 (by first | (simp; done) | (simp; omega) | omega) (by go_simp) (by go_simp) (by go_simp) (by go_simp) (by go_simp) (by go_simp) (by go_simp) (by go_simp) (by go_simp) (by go_simp) (by go_simp) (by go_simp)) (VarAt.of3 (by first | (simp; done) | (simp; omega) | omega) (by go_simp) (by go_simp) (by go_simp) (by go_simp) (by go_simp) (by go_simp)) HA6.out HS6.out HT6.out q0 q1 q2 (by repeat (first | with_reducible assumption | with_reducible exact Below.refl _ _ | with_reducible refine Below.drew ?_ | with_reducible refine below_al ?_ | (with_reducible refine below_set1 (by omega) _ ?_)))
        case rest =>
        obtain ⟨b13, b14, A6, ka6, R6, ra6, S6, sa6, X6, kx6, rfl, rfl, hn9, hn10, hv9, hv10, hA6, hS6, hT6, q0, q1, q2, hby⟩ := hcut
        have HBK := Lib.hid HR.out.blk
        have hsz := HSZ.out
        have n1 : ¬ (b13 = gw) := by omega
        have n2 : ¬ (gw = b13) := by omega
        have n3 : ¬ (b14 = gw) := by omega
        have n4 : ¬ (gw = b14) := by omega
        have hyc := HB1.out.trans (hby.mono HB1.out.size)
        have HYC := Lib.hid hyc
        have HBY := Lib.hid hby
        have HL := Lib.hid HR.out.len
        have HON := Lib.hid (HR.out.own.below hby)
        have HSF := Lib.hid (HR.out.safe.below hby)
        have HA6 := Lib.hid hA6
        have HS6 := Lib.hid hS6
        have HT6 := Lib.hid hT6
        have HO6 := Lib.hid (And.intro q0 (And.intro q1 q2))
        have HGV := Lib.hid ((HW3.out.later hby).1)
        obtain ⟨zz, ⟨c0, c1, c2, c3, c4, c5⟩, _⟩ := hv9.six
        obtain ⟨_, r0, r1, r2, _⟩ := hv10.three
        obtain ⟨zg, ⟨g0, g1, g2, g3, g4, g5⟩, f0, f1, f2, f3, f4, f5⟩ := HGV.out.six
        clear hv9 hv10 hA6 hS6 hT6 q0 q1 q2 hby hyc rC0 rC1 rC2 rC3 rC4 rC5 rL HYr HDO HR
        go_upto_region 17 with fail
        have hyc := HYC.out
        have hbk := HBK.out
        refine gen_at (P := fun W => Code.wp _ _ _ _ W) (fun z => Below w1.heap.size w1 z ∧ WdAt z gw 2 0 A6 10 ka6 0 R6 2 ra6 S6 sa6 G3 (rowO (upd o kk (o kk ++ ys)) q) (zerosS 2) ∧ OffW (N3 gw go gs) A6 10 ∧ OffS (N3 gw go gs) z R6 2 ∧ OffS (N3 gw go gs) z S6 2 ∧ VarAt z go (txt o) ∧ VarAt z gs (txt fun k => (o k).take (q k))) ⟨(by repeat (first | with_reducible assumption | with_reducible exact Below.refl _ _ | with_reducible refine Below.drew ?_ | with_reducible refine below_al ?_ | (with_reducible refine below_set1 (by omega) _ ?_))), ⟨VarAt.of6 (by first | (simp; done) | (simp; omega) | omega) (by go_simp) (by go_simp) (by go_simp) (by go_simp) (by go_simp) (by go_simp) (by go_simp) (by go_simp) (by go_simp) (by go_simp) (by go_simp) (by go_simp), HA6.out.keep (by repeat (first | with_reducible exact Keep.refl _ _ | with_reducible refine Keep.drew ?_ | with_reducible refine Keep.alloc ?_ _ | (with_reducible refine Keep.set ?_ _ _ _ (by unfold N3; omega)))) HO6.out.1, HS6.out.keep (by repeat (first | with_reducible exact Keep.refl _ _ | with_reducible refine Keep.drew ?_ | with_reducible refine Keep.alloc ?_ _ | (with_reducible refine Keep.set ?_ _ _ _ (by unfold N3; omega)))) HO6.out.2.1, HT6.out.keep (by repeat (first | with_reducible exact Keep.refl _ _ | with_reducible refine Keep.drew ?_ | with_reducible refine Keep.alloc ?_ _ | (with_reducible refine Keep.set ?_ _ _ _ (by unfold N3; omega)))) HO6.out.2.2⟩, HO6.out.1, HO6.out.2.1.keep HS6.out (by repeat (first | with_reducible exact Keep.refl _ _ | with_reducible refine Keep.drew ?_ | with_reducible refine Keep.alloc ?_ _ | (with_reducible refine Keep.set ?_ _ _ _ (by unfold N3; omega)))) HO6.out.2.1, HO6.out.2.2.keep HT6.out (by repeat (first | with_reducible exact Keep.refl _ _ | with_reducible refine Keep.drew ?_ | with_reducible refine Keep.alloc ?_ _ | (with_reducible refine Keep.set ?_ _ _ _ (by unfold N3; omega)))) HO6.out.2.2, (by repeat (first | with_reducible exact HON.out | (with_reducible refine VarAt.apart ?_ _ _ (by omega)))), (by repeat (first | with_reducible exact HSF.out | (with_reducible refine VarAt.apart ?_ _ _ (by omega))))⟩ ?_
        rintro z ⟨hz1, hz2, hz3, hz4, hz5, hz6, hz7⟩
        clear c0 c1 c2 c3 c4 c5 r0 r1 r2 g0 g1 g2 g3 g4 g5 f0 f1 f2 f3 f4 f5 zz zg hyc
        have HZ1 := Lib.hid hz1
        have HZ2 := Lib.hid hz2
        have HZ3 := Lib.hid (And.intro hz3 (And.intro hz4 hz5))
        have HZ6 := Lib.hid hz6
        have HZ7 := Lib.hid hz7
        have hat := HYB.out z hz1
        have k1 := hz6.2.1 kk _ (txt_at o hk2)
        have k2 := hz6.2.2 kk hk2
        have k3 := HRL.out z hz1
        have s1 := run_str hat dc
        have s2 : (convert 24 9 (.slice D ys.length dc)).run Try.prog z.drew = .ok (.string (strN ys)) z.drew := run_str (AtB.drewN hat 1) dc
        have l1 := (HL.out kk hk2).1
        have t1 := strN_size (o kk)
        have t2 := strN_size ys
        have t3 := strN_app (o kk) ys
        have j1 : (0 : Int) ≤ (kk : Int) := by omega
        have j2 : (kk : Int) < 2 := by omega
        have p1 : ¬ (bl = go) := by have := HBL.out; omega
        have p2 : ¬ (go = bl) := by have := HBL.out; omega
        clear hz1 hz2 hz3 hz4 hz5 hz6 hz7 hat
        generalize ha1 : strN (o kk) = U at *
        generalize ha2 : strN ys = V at *
        have HU := Lib.hid (And.intro ha1 (And.intro ha2 t3))
        clear ha1 ha2 t3
        go_cut [11] from 44 to 110 (fun s11 wx => s11 = .int .i64 (j : Int) ∧ RunT w1 gw go gs (j + 1) (upd o kk (o kk ++ ys)) q wx)
        case first =>
          go_region
          all_goals
            go_wp2_with fail
            go_meet
            have hyc := HZ1.out
            have hbk := HBK.out
            refine ⟨rfl, ⟨(by repeat (first | with_reducible assumption | with_reducible exact Below.refl _ _ | with_reducible refine Below.drew ?_ | with_reducible refine below_al ?_ | (with_reducible refine below_set1 (by omega) _ ?_))), hbk, ⟨A6, ka6, R6, ra6, S6, sa6, G3, ⟨VarAt.drewN (VarAt.apart HZ2.out.1 kk _ (by omega)) 1, HZ2.out.2.1.keep (by repeat (first | with_reducible exact Keep.refl _ _ | with_reducible refine Keep.drew ?_ | with_reducible refine Keep.alloc ?_ _ | (with_reducible refine Keep.set ?_ _ _ _ (by unfold N3; omega)))) HZ3.out.1, HZ2.out.2.2.1.keep (by repeat (first | with_reducible exact Keep.refl _ _ | with_reducible refine Keep.drew ?_ | with_reducible refine Keep.alloc ?_ _ | (with_reducible refine Keep.set ?_ _ _ _ (by unfold N3; omega)))) HZ3.out.2.1, HZ2.out.2.2.2.keep (by repeat (first | with_reducible exact Keep.refl _ _ | with_reducible refine Keep.drew ?_ | with_reducible refine Keep.alloc ?_ _ | (with_reducible refine Keep.set ?_ _ _ _ (by unfold N3; omega)))) HZ3.out.2.2⟩, HZ3.out.1, HZ3.out.2.1.keep HZ2.out.2.2.1 (by repeat (first | with_reducible exact Keep.refl _ _ | with_reducible refine Keep.drew ?_ | with_reducible refine Keep.alloc ?_ _ | (with_reducible refine Keep.set ?_ _ _ _ (by unfold N3; omega)))) HZ3.out.2.1, HZ3.out.2.2.keep HZ2.out.2.2.2 (by repeat (first | with_reducible exact Keep.refl _ _ | with_reducible refine Keep.drew ?_ | with_reducible refine Keep.alloc ?_ _ | (with_reducible refine Keep.set ?_ _ _ _ (by unfold N3; omega)))) HZ3.out.2.2⟩, ?_, ?_, upd_len HL.out hk2 (by omega)⟩⟩
            · have h := HZ6.out.setAt kk (.string (U ++ V)) hk2
              rw [← HU.out.2.2, txt_set o hk2] at h
              rw [← HU.out.2.2]
              exact VarAt.drewN h 1
            · rw [safe_app ys HL.out]
              exact VarAt.drewN (VarAt.apart HZ7.out kk _ (by omega)) 1
        case rest =>
        obtain ⟨rfl, hrun⟩ := hcut
        clear HZ1 HZ2 HZ3 HZ6 HZ7 HU HL k1 k2 k3 s1 s2 l1 t1 t2 HYC HBY HON HSF HA6 HS6 HT6 HO6 HGV
        generalize upd o kk (o kk ++ ys) = oo at hrun
        have HR2 := Lib.hid hrun
        have m1 := HRS.out _ hrun.below
        clear hrun
        cases fj with
        | false =>
          go_wp2_with fail
          go_roundw
          case rel => exact ⟨j + 1, oo, q, by omega, by go_num, HR2.out⟩
          case measure => simp [intOf]; omega
        | true =>
          obtain ⟨A7, ka7, R7, ra7, S7, sa7, G7, hW7, o0, o1, o2⟩ := HR2.out.run
          have HW7 := Lib.hid hW7
          have HO7 := Lib.hid (And.intro o0 (And.intro o1 o2))
          have HSY := fun w => strm_sync A7 10 ka7 G7 R7 S7 ra7 sa7 oo q kk hk2 w
          obtain ⟨c0, c1, c2, c3, c4, c5⟩ := hW7.cells
          clear hW7 o0 o1 o2
          go_wp2_with fail
          (with_reducible refine (HSY _ HW7.out.gA HW7.out.g0 HW7.out.g1).mono ?_)
          rintro e w8 ⟨A8, ka8, R8, ra8, S8, sa8, X8, kx8, rfl, ha, hs0, hs1, hk, hxb, hb, hP⟩
          go_upto_region 20 with fail
          have hkN : ∀ b, wc.heap.size ≤ b → N3 gw go gs b := fun b hb => by
            have h1 := HR2.out.own.1
            have h2 := HR2.out.safe.1
            have h3 := HW7.out.1.1
            unfold N3
            omega
          obtain ⟨q0, q1, q2, _⟩ := hP (N3 gw go gs) hkN HO7.out.1 HO7.out.2.1 HO7.out.2.2
          obtain ⟨x8, hx8⟩ : ∃ x, (w8.alloc (.cells #[.int .i64 2, .int .i64 0, .slice A8 10 ka8, .int .u64 0, .slice R8 2 ra8, .slice S8 2 sa8] 35)).alloc (.cells #[.int .u64 0, .slice X8 0 kx8, .bool false] 39) = x := ⟨_, rfl⟩
          have hbx : Below w8.heap.size w8 x8 := by rw [← hx8]; exact below_pair _ _ _
          have W8 : Hid (WdAt x8 w8.heap.size 2 0 A8 10 ka8 0 R8 2 ra8 S8 sa8 G7 (rowO oo (upd q kk (oo kk).length)) (zerosS 2)) := Lib.hid (by rw [← hx8]; exact WdAt.made w8 _ _ ha hs0 hs1)
          have V8 : Hid (VarAt x8 (w8.heap.size + 1) [.int .u64 0, .slice X8 0 kx8, .bool false]) := Lib.hid (by rw [← hx8]; exact VarAt.made1 w8 _ #[.int .u64 0, .slice X8 0 kx8, .bool false] 39)
          have O8 := Lib.hid (And.intro q0 (And.intro (q1.later hs0 hbx) (q2.later hs1 hbx)))
          have hbn := hb.trans (hbx.mono hb.size)
          have HBN := Lib.hid (HR2.out.below.trans (hbn.mono HR2.out.below.size))
          have ON8 := Lib.hid (HR2.out.own.below hbn)
          have SF8 := Lib.hid (HR2.out.safe.below hbn)
          have GV8 := Lib.hid (HW7.out.1.below hbn)
          have LN8 := Lib.hid HR2.out.len
          have hz3 := HW7.out.1.1
          have HBZ := Lib.hid hb.size
          have HGZ := Lib.hid hz3
          rw [hx8]
          clear hx8 ha hs0 hs1 hk hxb hb hP hbx hbn q0 q1 q2 hkN c0 c1 c2 c3 c4 c5 HSY HW7 HO7 HR2 hz3 m1 n1 n2 n3 n4 hsz HSZ HB1
          obtain ⟨b15, hb15⟩ : ∃ b, w8.heap.size = b := ⟨_, rfl⟩
          rw [hb15] at W8 V8 HBZ ⊢
          clear hb15
          have n1 : ¬ (b15 = gw) := by have := HBZ.out; have := HGZ.out; omega
          have n2 : ¬ (gw = b15) := fun e => n1 e.symm
          have n3 : ¬ (b15 + 1 = gw) := by have := HBZ.out; have := HGZ.out; omega
          have n4 : ¬ (gw = b15 + 1) := fun e => n3 e.symm
          obtain ⟨zz, ⟨c0, c1, c2, c3, c4, c5⟩, _⟩ := W8.out.1.six
          obtain ⟨_, r0, r1, r2, _⟩ := V8.out.three
          obtain ⟨zg, ⟨g0, g1, g2, g3, g4, g5⟩, f0, f1, f2, f3, f4, f5⟩ := GV8.out.six
          go_upto_region 23 with fail
          have hyc := HBN.out
          have hbk := HBK.out
          refine gen_at (P := fun W => Code.wp _ _ _ _ W) (fun z => Below w1.heap.size w1 z ∧ WdAt z gw 2 0 A8 10 ka8 0 R8 2 ra8 S8 sa8 G7 (rowO oo (upd q kk (oo kk).length)) (zerosS 2) ∧ OffW (N3 gw go gs) A8 10 ∧ OffS (N3 gw go gs) z R8 2 ∧ OffS (N3 gw go gs) z S8 2 ∧ VarAt z go (txt oo) ∧ VarAt z gs (txt fun k => (oo k).take (q k))) ⟨(by repeat (first | with_reducible assumption | with_reducible exact Below.refl _ _ | with_reducible refine Below.drew ?_ | with_reducible refine below_al ?_ | (with_reducible refine below_set1 (by omega) _ ?_))), ⟨VarAt.of6 (by first | (simp; done) | (simp; omega) | omega) (by go_simp) (by go_simp) (by go_simp) (by go_simp) (by go_simp) (by go_simp) (by go_simp) (by go_simp) (by go_simp) (by go_simp) (by go_simp) (by go_simp), W8.out.2.1.keep (by repeat (first | with_reducible exact Keep.refl _ _ | with_reducible refine Keep.drew ?_ | with_reducible refine Keep.alloc ?_ _ | (with_reducible refine Keep.set ?_ _ _ _ (by unfold N3; omega)))) O8.out.1, W8.out.2.2.1.keep (by repeat (first | with_reducible exact Keep.refl _ _ | with_reducible refine Keep.drew ?_ | with_reducible refine Keep.alloc ?_ _ | (with_reducible refine Keep.set ?_ _ _ _ (by unfold N3; omega)))) O8.out.2.1, W8.out.2.2.2.keep (by repeat (first | with_reducible exact Keep.refl _ _ | with_reducible refine Keep.drew ?_ | with_reducible refine Keep.alloc ?_ _ | (with_reducible refine Keep.set ?_ _ _ _ (by unfold N3; omega)))) O8.out.2.2⟩, O8.out.1, O8.out.2.1.keep W8.out.2.2.1 (by repeat (first | with_reducible exact Keep.refl _ _ | with_reducible refine Keep.drew ?_ | with_reducible refine Keep.alloc ?_ _ | (with_reducible refine Keep.set ?_ _ _ _ (by unfold N3; omega)))) O8.out.2.1, O8.out.2.2.keep W8.out.2.2.2 (by repeat (first | with_reducible exact Keep.refl _ _ | with_reducible refine Keep.drew ?_ | with_reducible refine Keep.alloc ?_ _ | (with_reducible refine Keep.set ?_ _ _ _ (by unfold N3; omega)))) O8.out.2.2, (by repeat (first | with_reducible exact ON8.out | (with_reducible refine VarAt.apart ?_ _ _ (by omega)))), (by repeat (first | with_reducible exact SF8.out | (with_reducible refine VarAt.apart ?_ _ _ (by omega))))⟩ ?_
          rintro z ⟨hz1, hz2, hz3, hz4, hz5, hz6, hz7⟩
          clear c0 c1 c2 c3 c4 c5 r0 r1 r2 g0 g1 g2 g3 g4 g5 f0 f1 f2 f3 f4 f5 zz zg hyc W8 V8 O8 GV8 ON8 SF8 HBN
          have HZ1 := Lib.hid hz1
          have HZ2 := Lib.hid hz2
          have HZ3 := Lib.hid (And.intro hz3 (And.intro hz4 hz5))
          have HZ6 := Lib.hid hz6
          have HZ7 := Lib.hid hz7
          have k1 := hz6.2.1 kk _ (txt_at oo hk2)
          have k2 := hz7.2.2 kk hk2
          have k4 := hz7.2.1 kk _ (txt_at (fun k => (oo k).take (q k)) hk2)
          have p3 : ¬ (gs = go) := by have := hbk; omega
          have p4 : ¬ (go = gs) := fun e => p3 e.symm
          clear hz1 hz2 hz3 hz4 hz5 hz6 hz7
          generalize ha1 : strN (oo kk) = U at *
          have HU := Lib.hid ha1
          clear ha1
          go_wp2_with fail
          go_roundw
          case rel =>
            have hyc := HZ1.out
            refine ⟨j + 1, oo, upd q kk (oo kk).length, by omega, by go_num, ⟨(by repeat (first | with_reducible assumption | with_reducible exact Below.refl _ _ | with_reducible refine Below.drew ?_ | with_reducible refine below_al ?_ | (with_reducible refine below_set1 (by omega) _ ?_))), hbk, ⟨A8, ka8, R8, ra8, S8, sa8, G7, ⟨VarAt.apart HZ2.out.1 kk _ (by omega), HZ2.out.2.1.keep (by repeat (first | with_reducible exact Keep.refl _ _ | with_reducible refine Keep.drew ?_ | with_reducible refine Keep.alloc ?_ _ | (with_reducible refine Keep.set ?_ _ _ _ (by unfold N3; omega)))) HZ3.out.1, HZ2.out.2.2.1.keep (by repeat (first | with_reducible exact Keep.refl _ _ | with_reducible refine Keep.drew ?_ | with_reducible refine Keep.alloc ?_ _ | (with_reducible refine Keep.set ?_ _ _ _ (by unfold N3; omega)))) HZ3.out.2.1, HZ2.out.2.2.2.keep (by repeat (first | with_reducible exact Keep.refl _ _ | with_reducible refine Keep.drew ?_ | with_reducible refine Keep.alloc ?_ _ | (with_reducible refine Keep.set ?_ _ _ _ (by unfold N3; omega)))) HZ3.out.2.2⟩, HZ3.out.1, HZ3.out.2.1.keep HZ2.out.2.2.1 (by repeat (first | with_reducible exact Keep.refl _ _ | with_reducible refine Keep.drew ?_ | with_reducible refine Keep.alloc ?_ _ | (with_reducible refine Keep.set ?_ _ _ _ (by unfold N3; omega)))) HZ3.out.2.1, HZ3.out.2.2.keep HZ2.out.2.2.2 (by repeat (first | with_reducible exact Keep.refl _ _ | with_reducible refine Keep.drew ?_ | with_reducible refine Keep.alloc ?_ _ | (with_reducible refine Keep.set ?_ _ _ _ (by unfold N3; omega)))) HZ3.out.2.2⟩, ?_, ?_, sync_len LN8.out⟩⟩
            · exact VarAt.apart HZ6.out kk _ (by omega)
            · have h := HZ7.out.setAt kk (.string U) hk2
              rw [← HU.out, safe_set hk2] at h
              rw [← HU.out]
              exact h
          case measure => simp [intOf]; omega
    · obtain rfl : j = n := by omega
      have e1 : decide ((j : Int) < (j : Int)) = false := by rw [decide_eq_false_iff_not]; omega
      have e1' : decide (j < j) = false := by rw [decide_eq_false_iff_not]; omega
      have BBr := Lib.hid (BB.out.trans (HR.out.below.mono BB.out.size))
      clear HA1 HY1 HM1 BB
      go_upto_region 24 with fail
      go_wp2_with fail
      go_loopw [17] (fun u17 wx => ∃ kk : Nat, kk ≤ 2 ∧ u17 = .int .i64 (kk : Int) ∧ Below wr.heap.size wr wx) (fun i _ => 2 - (intOf i).toNat)
      case atStart => exact ⟨0, Nat.zero_le _, rfl, Below.refl _ _⟩
      case round =>
        obtain ⟨kk, hk, rfl, hbx⟩ := hrel
        have HBX := Lib.hid hbx
        by_cases hk2 : kk < 2
        · obtain ⟨A3, ka3, R3, ra3, S3, sa3, G3, hW3', _⟩ := HR.out.run
          have hW3 := hW3'.later hbx
          have HW3 := Lib.hid hW3
          have hlen := HR.out.len
          have HRD := fun w => strm_read A3 10 ka3 G3 R3 S3 ra3 sa3 o q kk hk2 w
          have HON := Lib.hid (HR.out.own.below hbx)
          have HSF := Lib.hid (HR.out.safe.below hbx)
          obtain ⟨c0, c1, c2, c3, c4, c5⟩ := hW3.cells
          have j1 : (0 : Int) ≤ (kk : Int) := by omega
          have j2 : (kk : Int) < 2 := by omega
          have f1 : decide ((kk : Int) < 2) = true := by rw [decide_eq_true_iff]; omega
          have f1' : decide (kk < 2) = true := by rw [decide_eq_true_iff]; omega
          clear hW3 hW3' hbx
          go_wp2_with fail
          (with_reducible refine (HRD _ HW3.out.gA HW3.out.g0 HW3.out.g1).mono ?_)
          rintro e w4 ⟨A4, ka4, R4, ra4, S4, sa4, X4, kx4, rfl, ha, hs0, hs1, hk', hxb, hb, hP⟩
          go_upto_region 28 with fail
          obtain ⟨x4, hx4⟩ : ∃ x, (w4.alloc (.cells #[.int .i64 2, .int .i64 0, .slice A4 10 ka4, .int .u64 0, .slice R4 2 ra4, .slice S4 2 sa4] 35)).alloc (.cells #[.int .u64 0, .slice X4 (o kk).length kx4, .bool false] 39) = x := ⟨_, rfl⟩
          have hb4 : Below w4.heap.size w4 x4 := by rw [← hx4]; exact below_pair _ _ _
          have V4 : Hid (VarAt x4 (w4.heap.size + 1) [.int .u64 0, .slice X4 (o kk).length kx4, .bool false]) := Lib.hid (by rw [← hx4]; exact VarAt.made1 w4 _ #[.int .u64 0, .slice X4 (o kk).length kx4, .bool false] 39)
          have XB4 := Lib.hid (AtB.later (Lib.hid hxb) hb4)
          have hbn := hb.trans (hb4.mono hb.size)
          have W4 := Lib.hid (HW3.out.later hbn)
          have ON4 := Lib.hid (HON.out.below hbn)
          have SF4 := Lib.hid (HSF.out.below hbn)
          have BX4 := Lib.hid (HBX.out.trans (hbn.mono HBX.out.size))
          rw [hx4]
          obtain ⟨b19, hb19⟩ : ∃ b, w4.heap.size + 1 = b := ⟨_, rfl⟩
          rw [hb19] at V4 ⊢
          clear hx4 hb19 hb4 hbn ha hs0 hs1 hk' hxb hb hP c0 c1 c2 c3 c4 c5 HW3 HON HSF HBX HRD
          have HCR := fun w => strm_crash R3 S3 ra3 sa3 o q (fun k hk => (hlen k hk).2) (fun k hk => by have := (hlen k hk).1; omega) w
          clear hlen HR
          generalize (fun k => (o k).take (q k)) = oc at HCR SF4
          have rC0 : ∀ w', Below x4.heap.size x4 w' → w'.cell? ⟨gw, 0, none⟩ = some (.int .i64 2) := fun w' hb => (W4.out.later hb).cells.1
          have rC1 : ∀ w', Below x4.heap.size x4 w' → w'.cell? ⟨gw, 1, none⟩ = some (.int .i64 0) := fun w' hb => (W4.out.later hb).cells.2.1
          have rC2 : ∀ w', Below x4.heap.size x4 w' → w'.cell? ⟨gw, 2, none⟩ = some (.slice A3 10 ka3) := fun w' hb => (W4.out.later hb).cells.2.2.1
          have rC3 : ∀ w', Below x4.heap.size x4 w' → w'.cell? ⟨gw, 3, none⟩ = some (.int .u64 0) := fun w' hb => (W4.out.later hb).cells.2.2.2.1
          have rC4 : ∀ w', Below x4.heap.size x4 w' → w'.cell? ⟨gw, 4, none⟩ = some (.slice R3 2 ra3) := fun w' hb => (W4.out.later hb).cells.2.2.2.2.1
          have rC5 : ∀ w', Below x4.heap.size x4 w' → w'.cell? ⟨gw, 5, none⟩ = some (.slice S3 2 sa3) := fun w' hb => (W4.out.later hb).cells.2.2.2.2.2
          have hB0 : Below x4.heap.size x4 x4 := Below.refl _ _
          go_cut [21] from 111 to 151 (fun s21 wx => ReadEnd x4 (oc kk) s21 wx)
          case first =>
            go_region_held3 (fun w' => Below x4.heap.size x4 w') (repeat (first | with_reducible assumption | with_reducible refine Below.drew ?_ | with_reducible refine below_al ?_ | (with_reducible refine below_set1 (by omega) _ ?_)))
              (first | (go_at_call 11; (with_reducible refine (HCR _ (W4.out.later (by repeat (first | with_reducible assumption | with_reducible refine Below.drew ?_ | with_reducible refine below_al ?_))).g0 (W4.out.later (by repeat (first | with_reducible assumption | with_reducible refine Below.drew ?_ | with_reducible refine below_al ?_))).g1).mono ?_); rintro e w5 ⟨R5, ra5, S5, sa5, rfl, hs0, hs1, hb, hP⟩; have hBw5 : Below x4.heap.size x4 w5 := below_step hb (by repeat (first | with_reducible assumption | with_reducible refine Below.drew ?_ | with_reducible refine below_al ?_)); have hz5 := hBw5.size; have HS5 := Lib.hid hs0; have HT5 := Lib.hid hs1; have HC := Lib.hid (crash_fact (by repeat (first | with_reducible assumption | with_reducible refine Below.drew ?_ | with_reducible refine below_al ?_)) hb hP W4.out.2.2.1 W4.out.2.2.2); (try (have VBa : VarAt w5 x4.heap.size [.int .i64 0, .int .i64 0, .slice none 0 0, .int .u64 0, .slice none 0 0, .slice none 0 0] := VarAt.onto hb (VarAt.made x4 #[.int .i64 0, .int .i64 0, .slice none 0 0, .int .u64 0, .slice none 0 0, .slice none 0 0] 35) rfl; obtain ⟨_, ⟨vVBa0, vVBa1, vVBa2, vVBa3, vVBa4, vVBa5⟩, wVBa0, wVBa1, wVBa2, wVBa3, wVBa4, wVBa5⟩ := VBa.six)); (try (have VBb : VarAt w5 x4.heap.size [.int .u64 0, .slice none 0 0, .bool false] := VarAt.onto hb (VarAt.made x4 #[.int .u64 0, .slice none 0 0, .bool false] 39) rfl; obtain ⟨_, vVBb0, vVBb1, vVBb2, wVBb0, wVBb1, wVBb2⟩ := VBb.three)); (try (have VBc : VarAt w5 (x4.heap.size + 1) [.int .u64 0, .slice none 0 0, .bool false] := VarAt.onto hb (VarAt.made1 x4 (.cells #[.int .i64 0, .int .i64 0, .slice none 0 0, .int .u64 0, .slice none 0 0, .slice none 0 0] 35) #[.int .u64 0, .slice none 0 0, .bool false] 39) rfl; obtain ⟨_, vVBc0, vVBc1, vVBc2, wVBc0, wVBc1, wVBc2⟩ := VBc.three)); (try (have VBd : VarAt w5 (x4.heap.size + 1) [.int .i64 0, .int .i64 0, .slice none 0 0, .int .u64 0, .slice none 0 0, .slice none 0 0] := VarAt.onto hb (VarAt.made1 x4 (.cells #[.int .u64 0, .slice none 0 0, .bool false] 39) #[.int .i64 0, .int .i64 0, .slice none 0 0, .int .u64 0, .slice none 0 0, .slice none 0 0] 35) rfl; obtain ⟨_, ⟨vVBd0, vVBd1, vVBd2, vVBd3, vVBd4, vVBd5⟩, wVBd0, wVBd1, wVBd2, wVBd3, wVBd4, wVBd5⟩ := VBd.six)); (try (have VBe : VarAt w5 x4.heap.size [.int .i64 0, .int .i64 0, .slice none 0 0, .int .u64 0, .slice none 0 0, .slice none 0 0] := VarAt.onto hb ((VarAt.made x4 #[.int .i64 0, .int .i64 0, .slice none 0 0, .int .u64 0, .slice none 0 0, .slice none 0 0] 35).below (al_below _ (.cells #[.int .u64 0, .slice none 0 0, .bool false] 39))) rfl; obtain ⟨_, ⟨vVBe0, vVBe1, vVBe2, vVBe3, vVBe4, vVBe5⟩, wVBe0, wVBe1, wVBe2, wVBe3, wVBe4, wVBe5⟩ := VBe.six)); (try (have VBf : VarAt w5 x4.heap.size [.int .u64 0, .slice none 0 0, .bool false] := VarAt.onto hb ((VarAt.made x4 #[.int .u64 0, .slice none 0 0, .bool false] 39).below (al_below _ (.cells #[.int .i64 0, .int .i64 0, .slice none 0 0, .int .u64 0, .slice none 0 0, .slice none 0 0] 35))) rfl; obtain ⟨_, vVBf0, vVBf1, vVBf2, wVBf0, wVBf1, wVBf2⟩ := VBf.three)); clear hs0 hs1 hb hP) | (go_at_call 10; have HRE := fun w => strm_read A3 10 ka3 G3 R5 S5 ra5 sa5 oc q kk hk2 w; (with_reducible refine (HRE _ (W4.out.later (by repeat (first | with_reducible assumption | with_reducible refine Below.drew ?_ | with_reducible refine below_al ?_))).gA (Lib.hid (HS5.out.later (by repeat (first | with_reducible exact Below.refl _ _ | with_reducible assumption | with_reducible refine Below.drew ?_ | with_reducible refine below_al ?_)))) (Lib.hid (HT5.out.later (by repeat (first | with_reducible exact Below.refl _ _ | with_reducible assumption | with_reducible refine Below.drew ?_ | with_reducible refine below_al ?_))))).mono ?_); rintro e w6 ⟨A6, ka6, R6, ra6, S6, sa6, X6, kx6, rfl, ha, hs0, hs1, hk, hxb, hb, hP⟩; have hBw6 : Below x4.heap.size x4 w6 := below_step hb (by repeat (first | with_reducible assumption | with_reducible refine Below.drew ?_ | with_reducible refine below_al ?_)); have hb56 : Below w5.heap.size w5 w6 := below_step hb (by repeat (first | with_reducible exact Below.refl _ _ | with_reducible assumption | with_reducible refine Below.drew ?_ | with_reducible refine below_al ?_)); have hz6 := hBw6.size; have HX6 := Lib.hid hxb; obtain ⟨N1, hN1, hN1a, hN1b, oc0, oc1⟩ := HC.out; have HQ := Lib.hid (read_fact hN1a hN1b (by repeat (first | with_reducible exact Below.refl _ _ | with_reducible assumption | with_reducible refine Below.drew ?_ | with_reducible refine below_al ?_)) hb hP W4.out.2.1 HS5.out HT5.out oc0 oc1); (try (have VCa := VarAt.below VBa hb56; obtain ⟨_, ⟨vVCa0, vVCa1, vVCa2, vVCa3, vVCa4, vVCa5⟩, wVCa0, wVCa1, wVCa2, wVCa3, wVCa4, wVCa5⟩ := VCa.six)); (try (have VCb := VarAt.below VBb hb56; obtain ⟨_, vVCb0, vVCb1, vVCb2, wVCb0, wVCb1, wVCb2⟩ := VCb.three)); (try (have VCc := VarAt.below VBc hb56; obtain ⟨_, vVCc0, vVCc1, vVCc2, wVCc0, wVCc1, wVCc2⟩ := VCc.three)); (try (have VCd := VarAt.below VBd hb56; obtain ⟨_, ⟨vVCd0, vVCd1, vVCd2, vVCd3, vVCd4, vVCd5⟩, wVCd0, wVCd1, wVCd2, wVCd3, wVCd4, wVCd5⟩ := VCd.six)); (try (have VCe := VarAt.below VBe hb56; obtain ⟨_, ⟨vVCe0, vVCe1, vVCe2, vVCe3, vVCe4, vVCe5⟩, wVCe0, wVCe1, wVCe2, wVCe3, wVCe4, wVCe5⟩ := VCe.six)); (try (have VCf := VarAt.below VBf hb56; obtain ⟨_, vVCf0, vVCf1, vVCf2, wVCf0, wVCf1, wVCf2⟩ := VCf.three)); (try (have VDa : VarAt w6 w5.heap.size [.int .i64 0, .int .i64 0, .slice none 0 0, .int .u64 0, .slice none 0 0, .slice none 0 0] := VarAt.onto hb (VarAt.made w5 #[.int .i64 0, .int .i64 0, .slice none 0 0, .int .u64 0, .slice none 0 0, .slice none 0 0] 35) rfl; obtain ⟨_, ⟨vVDa0, vVDa1, vVDa2, vVDa3, vVDa4, vVDa5⟩, wVDa0, wVDa1, wVDa2, wVDa3, wVDa4, wVDa5⟩ := VDa.six)); (try (have VDb : VarAt w6 w5.heap.size [.int .u64 0, .slice none 0 0, .bool false] := VarAt.onto hb (VarAt.made w5 #[.int .u64 0, .slice none 0 0, .bool false] 39) rfl; obtain ⟨_, vVDb0, vVDb1, vVDb2, wVDb0, wVDb1, wVDb2⟩ := VDb.three)); (try (have VDc : VarAt w6 (w5.heap.size + 1) [.int .u64 0, .slice none 0 0, .bool false] := VarAt.onto hb (VarAt.made1 w5 (.cells #[.int .i64 0, .int .i64 0, .slice none 0 0, .int .u64 0, .slice none 0 0, .slice none 0 0] 35) #[.int .u64 0, .slice none 0 0, .bool false] 39) rfl; obtain ⟨_, vVDc0, vVDc1, vVDc2, wVDc0, wVDc1, wVDc2⟩ := VDc.three)); (try (have VDd : VarAt w6 (w5.heap.size + 1) [.int .i64 0, .int .i64 0, .slice none 0 0, .int .u64 0, .slice none 0 0, .slice none 0 0] := VarAt.onto hb (VarAt.made1 w5 (.cells #[.int .u64 0, .slice none 0 0, .bool false] 39) #[.int .i64 0, .int .i64 0, .slice none 0 0, .int .u64 0, .slice none 0 0, .slice none 0 0] 35) rfl; obtain ⟨_, ⟨vVDd0, vVDd1, vVDd2, vVDd3, vVDd4, vVDd5⟩, wVDd0, wVDd1, wVDd2, wVDd3, wVDd4, wVDd5⟩ := VDd.six)); (try (have VDe : VarAt w6 w5.heap.size [.int .i64 0, .int .i64 0, .slice none 0 0, .int .u64 0, .slice none 0 0, .slice none 0 0] := VarAt.onto hb ((VarAt.made w5 #[.int .i64 0, .int .i64 0, .slice none 0 0, .int .u64 0, .slice none 0 0, .slice none 0 0] 35).below (al_below _ (.cells #[.int .u64 0, .slice none 0 0, .bool false] 39))) rfl; obtain ⟨_, ⟨vVDe0, vVDe1, vVDe2, vVDe3, vVDe4, vVDe5⟩, wVDe0, wVDe1, wVDe2, wVDe3, wVDe4, wVDe5⟩ := VDe.six)); (try (have VDf : VarAt w6 w5.heap.size [.int .u64 0, .slice none 0 0, .bool false] := VarAt.onto hb ((VarAt.made w5 #[.int .u64 0, .slice none 0 0, .bool false] 39).below (al_below _ (.cells #[.int .i64 0, .int .i64 0, .slice none 0 0, .int .u64 0, .slice none 0 0, .slice none 0 0] 35))) rfl; obtain ⟨_, vVDf0, vVDf1, vVDf2, wVDf0, wVDf1, wVDf2⟩ := VDf.three)); clear ha hs0 hs1 hk hxb hb hP oc0 oc1))
            all_goals
              go_wp2_with fail
              go_meet
              obtain ⟨N2, hN2, hN3, hN4, qx⟩ := HQ.out
              simp at hN1 hN2
              exact ReadEnd.of (N0 := x4.heap.size) (N1 := N1) (N5 := w5.heap.size) (N2 := N2) (w6 := w6) (X := X6) (kx := kx6) (by repeat (first | with_reducible exact Keep.refl _ _ | with_reducible refine Keep.drew ?_ | with_reducible refine Keep.alloc ?_ _ | (with_reducible refine Keep.set ?_ _ _ _ (by unfold Q5; omega)))) (VarAt.of3 (by first | (simp; done) | (simp; omega) | omega) (by go_simp) (by go_simp) (by go_simp) (by go_simp) (by go_simp) (by go_simp)) HX6.out qx (by repeat (first | with_reducible assumption | with_reducible exact Below.refl _ _ | with_reducible refine Below.drew ?_ | with_reducible refine below_al ?_ | (with_reducible refine below_set1 (by omega) _ ?_)))
          case rest =>
          obtain ⟨b21, X5, kx5, rfl, hv21, hxb5, hby⟩ := hcut
          have hv19 := V4.out.below hby
          have hon := ON4.out.below hby
          have hsf := SF4.out.below hby
          have hxb4 := AtB.later XB4 hby
          have BXc := Lib.hid (BX4.out.trans (hby.mono BX4.out.size))
          obtain ⟨_, r0, r1, r2, _⟩ := hv19.three
          obtain ⟨_, p0, p1, p2, _⟩ := hv21.three
          have k1 := hon.2.1 kk _ (txt_at o hk2)
          have k2 := hsf.2.1 kk _ (txt_at oc hk2)
          have s1 := run_str hxb4 kx4
          have s2 := fun m => run_str (AtB.drewN hxb4 m) kx4
          have s3 := run_str hxb5 kx5
          have s4 := fun m => run_str (AtB.drewN hxb5 m) kx5
          clear hv19 hv21 hon hsf hxb4 hxb5 hby V4 XB4 W4 ON4 SF4 BX4 HCR hB0 rC0 rC1 rC2 rC3 rC4 rC5
          generalize strN (o kk) = U at *
          generalize strN (oc kk) = V at *
          go_wp2_with fail
          go_quiet (fail)
          go_wp2_with fail
          go_roundw
          case rel => exact ⟨kk + 1, by omega, by go_num, below_draw (BXc.out) _⟩
          case measure => simp [intOf]; omega
        · obtain rfl : kk = 2 := by omega
          have f1 : decide ((2 : Int) < 2) = false := by decide
          have BBx := Lib.hid (BBr.out.trans (HBX.out.mono BBr.out.size))
          go_wp2_with fail
          go_ret
          exact ⟨rfl, BBx.out⟩
section
set_option maxRecDepth 100000
set_option maxHeartbeats 2000000
variable {H : Type} {enc : TypeId × Value → H} {w : World}
theorem open_l {v : Value} {d : DataW H} {ps : List MemPlace} {base : Nat} (hval : Value.okWide Try.prog w .any base 22 v) (h : DataW.Trod enc Try.prog w 0 (fun _ => true) true 22 v d ps) (hs : Sized Try.prog 22 d) (hlt : ∀ z ∈ ps, z.block < w.heap.size) :
    ∃ (lA : Option Addr) (lL lC : Nat) (ll : List (List Nat)), v = .slice lA lL lC ∧ (lL ≤ lC ∧ RwsAt w lA lL ll) := by
  obtain ⟨a0, len, cap, rfl⟩ := okWide_slice Try.underlying22 hval
  obtain ⟨fuel, hf0⟩ := h
  have hf : DataW.trod enc Try.prog w 0 (fun _ => true) true fuel 22 [.slice a0 len cap] = some (d, ps) := hf0
  obtain ⟨lA, lL, lC, ll, e0, hl⟩ := leaf_rwsat hf hs hlt
  cases e0
  exact ⟨_, _, _, _, rfl, hl⟩
theorem open_y {v : Value} {d : DataW H} {ps : List MemPlace} {base : Nat} (hval : Value.okWide Try.prog w .any base 23 v) (h : DataW.Trod enc Try.prog w 0 (fun _ => true) true 23 v d ps) (hs : Sized Try.prog 23 d) (hlt : ∀ z ∈ ps, z.block < w.heap.size) :
    ∃ (yA : Option Addr) (yL yC : Nat) (yf : Nat → Bool), v = .slice yA yL yC ∧ (yL ≤ yC ∧ BlsAt w yA yL yf) := by
  obtain ⟨a0, len, cap, rfl⟩ := okWide_slice Try.underlying23 hval
  obtain ⟨fuel, hf0⟩ := h
  have hf : DataW.trod enc Try.prog w 0 (fun _ => true) true fuel 23 [.slice a0 len cap] = some (d, ps) := hf0
  obtain ⟨yA, yL, yC, yf, e0, hy⟩ := leaf_blsat hf hs hlt
  cases e0
  exact ⟨_, _, _, _, rfl, hy⟩
theorem open_m {v : Value} {d : DataW H} {ps : List MemPlace} {base : Nat} (hval : Value.okWide Try.prog w .any base 24 v) (h : DataW.Trod enc Try.prog w 0 (fun _ => true) true 24 v d ps) (hs : Sized Try.prog 24 d) (hlt : ∀ z ∈ ps, z.block < w.heap.size) :
    ∃ (mA : Option Addr) (mL mC : Nat) (mx : List Nat), v = .slice mA mL mC ∧ (mL ≤ mC ∧ mL ≤ 140737488355328 ∧ AtB w mA mL mx) := by
  obtain ⟨a0, len, cap, rfl⟩ := okWide_slice Try.underlying24 hval
  obtain ⟨fuel, hf0⟩ := h
  have hf : DataW.trod enc Try.prog w 0 (fun _ => true) true fuel 24 [.slice a0 len cap] = some (d, ps) := hf0
  obtain ⟨mA, mL, mC, mx, e0, hm⟩ := leaf_bytes hf hs hlt
  cases e0
  exact ⟨_, _, _, _, rfl, hm⟩
end

set_option maxRecDepth 100000 in
set_option maxHeartbeats 8000000 in
theorem lifted (os : Os) (started : os.Started) (H : Type) (enc : TypeId × Value → H) :
    ReturnsInHanded {} Try.checked os 3 .any (Rows.accessStreamsSpec.pre6 enc Try.prog Try.f3 Rows.accessStreamsRow.domain false) (Rows.accessStreamsSpec.post enc Try.prog Try.f3 false true false false) := by
  refine law_lifted (C := Try.checked) own started (by kernel_rfl) Try.func3
    (ChangeSpec.witness6 (enc := enc) (C := Try.checked) false ⟨#[], #[.slice none 0 0, .slice none 0 0, .slice none 0 0], []⟩ 8 (by kernel_rfl) (by kernel_rfl) (by kernel_rfl) (by kernel_rfl))
    (by kernel_rfl) (by kernel_rfl) Try.underlying4 rfl (by kernel_rfl) ?_
  intro W base args ds before hval hA hwt hlt
  have hA' : DataW.TrodAll enc Try.prog W 0 (fun _ => true) true Try.f3.params.toList args.toList ds before := hA
  have hval' : ∀ (j : Nat) t v, Try.f3.params[j]? = some t → args[j]? = some v → Value.okWide Try.prog W .any base t v := hval
  have hwt' : (DataW.weightsEach Try.prog Try.f3.params.toList ds).all (· ≤ reachBytes) = true := hwt
  rw [Try.params3] at hA' hval' hwt'
  obtain ⟨v0, vs0, d0, ds0, p0, q0, hargs, rfl, rfl, k0, r0⟩ := trodAll_cons hA'
  obtain ⟨v1, vs1, d1, ds1, p1, q1, rfl, rfl, rfl, k1, r1⟩ := trodAll_cons r0
  obtain ⟨v2, vs2, d2, ds2, p2, q2, rfl, rfl, rfl, k2, r2⟩ := trodAll_cons r1
  obtain ⟨rfl, rfl, rfl⟩ := trodAll_nil r2
  obtain rfl : args = #[v0, v1, v2] := by cases args; simp_all
  obtain ⟨lA, lL, lC, ll, rfl, hl⟩ := open_l (hval' 0 22 v0 rfl rfl) k0 (sized_of hwt' (j := 0) (t := 22) rfl rfl) (fun x hx => hlt x (by simp [hx]))
  obtain ⟨yA, yL, yC, yf, rfl, hy⟩ := open_y (hval' 1 23 v1 rfl rfl) k1 (sized_of hwt' (j := 1) (t := 23) rfl rfl) (fun x hx => hlt x (by simp [hx]))
  obtain ⟨mA, mL, mC, mx, rfl, hm⟩ := open_m (hval' 2 24 v2 rfl rfl) k2 (sized_of hwt' (j := 2) (t := 24) rfl rfl) (fun x hx => hlt x (by simp [hx]))
  refine ⟨rfl, ?_⟩
  obtain ⟨_, hlat⟩ := hl
  obtain ⟨_, hyat⟩ := hy
  obtain ⟨_, _, hmat⟩ := hm
  by_cases h1 : 20 < lL
  · exact walkA lA lL lC ll yA yL yC yf mA mL mC mx h1 W (Lib.hid hlat) (Lib.hid hyat) (Lib.hid hmat)
  by_cases h2 : yL < lL
  · exact walkB lA lL lC ll yA yL yC yf mA mL mC mx (by omega) h2 W (Lib.hid hlat) (Lib.hid hyat) (Lib.hid hmat)
  by_cases h3 : mL < lL
  · exact walkC lA lL lC ll yA yL yC yf mA mL mC mx (by omega) (by omega) h3 W (Lib.hid hlat) (Lib.hid hyat) (Lib.hid hmat)
  exact walk lA lL lC ll yA yL yC yf mA mL mC mx (by omega) (by omega) (by omega) W (Lib.hid hlat) (Lib.hid hyat) (Lib.hid hmat)

theorem over : Rows.accessStreamsRow.holds Try.pinned (OpenSpec.ofChange Rows.accessStreamsSpec) :=
  OpenClaim.holds_of_wide 3 Try.f3 rfl rfl rfl rfl rfl rfl rfl ⟨rfl, rfl, rfl, rfl, rfl⟩ rfl rfl rfl rfl rfl (by kernel_rfl) Try.func3 (by kernel_rfl)
    (of_decide_eq_true (by kernel_rfl)) (by unfold Func.isWrapper; first | (rw [if_pos (by decide +kernel)]; kernel_rfl) | (rw [if_neg (by decide +kernel)]; exact ⟨rfl, rfl⟩))
    (fun os started H enc _ => lifted os started H enc)

/-- The statement. -/
theorem proved : Rows.AccessStreamsSaid :=
  over
#print axioms proved
end Go.Proofs.Ytjbhichgojjakaa.accessStreams
