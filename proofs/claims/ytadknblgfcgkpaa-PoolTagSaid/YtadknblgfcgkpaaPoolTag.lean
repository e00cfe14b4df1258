/-
  PoolTag: each Pop of a record, and each Push, moves the top's tag on by one, and no Pop of none does; for 8 records, 40 operations. No condition beyond the statement's own.
-/
import Derived.Test.YtadknblgfcgkpaaPolShown
import Derived.Test.YtadknblgfcgkpaaPolLoop
import Derived.Test.YtadknblgfcgkpaaAccLeaf
import Derived.Test.YtadknblgfcgkpaaLaw
import Derived.Test.YtadknblgfcgkpaaFields
import Derived.Deep.Cut
import Derived.Deep.CutRange
namespace Go.Proofs.Ytadknblgfcgkpaa.poolTag
open Go.ChangeShapes Go.WideShapes Go.ChangeAt Go.RowKit Go.Deep Go.BigFrame
set_option linter.unusedVariables false
theorem own : ownKnob Try.prog.godebug = none := by kernel_rfl

set_option maxRecDepth 100000 in
set_option maxHeartbeats 16000000 in
theorem walkA (c0 : Nat) (hc0 : c0 < 256) (LA : Option Addr) (ln lc : Nat) (xs : List Nat) (hln : 40 < ln) (w : World) (HL : Hid (AtB w LA ln xs)) :
    Calls Try.prog 5 #[.int .u8 (c0 : Int), .slice LA ln lc] w fun e w' => e = .returned (.bool true) ∧ Below w.heap.size w w' := by
  have d1 : decide ((40 : Int) < (ln : Int)) = true := by rw [decide_eq_true_iff]; omega
  have d1' : decide (40 < ln) = true := by rw [decide_eq_true_iff]; omega
  go_enter Try.func5, Try.ntmps5
  go_wp2_with fail
  (with_reducible refine (poolShown _).mono ?_)
  rintro e w1 ⟨rfl, hb⟩
  have BB := Lib.hid hb
  clear hb
  go_wp2_with fail
  go_ret
  exact ⟨rfl, BB.out⟩

set_option maxRecDepth 100000 in
set_option maxHeartbeats 16000000 in
theorem walk (c0 : Nat) (hc0 : c0 < 256) (LA : Option Addr) (ln lc : Nat) (xs : List Nat) (hln : ln ≤ 40) (w : World) (HL : Hid (AtB w LA ln xs)) :
    Calls Try.prog 5 #[.int .u8 (c0 : Int), .slice LA ln lc] w fun e w' => e = .returned (.bool true) ∧ Below w.heap.size w w' := by
  obtain ⟨r, hr⟩ : ∃ r : Nat, r = 0 := ⟨0, rfl⟩
  obtain ⟨c, hc⟩ : ∃ c, c0 % 9 = c := ⟨_, rfl⟩
  have hc1 : c < 9 := by omega
  have q1 : (c0 : Int) % 9 = (c : Int) := by omega
  have d1 : decide ((40 : Int) < (ln : Int)) = false := by rw [decide_eq_false_iff_not]; omega
  have d1' : decide (40 < ln) = false := by rw [decide_eq_false_iff_not]; omega
  have HNEW : ∀ w, Calls Try.prog 14 #[.int .i64 1, .int .i64 (c : Int)] w (NewWdR w 1 c 1 (sizeN 1 c) (newF 1 c) r) := fun w => newWdR 1 c (by decide) (by decide) (by omega) hr w
  have HP0 : Hid (Parts c (newF 1 c) (List.range' 1 c) [] ∧ tagN (newF 1 c 1) = 0) := Lib.hid ⟨Parts.start (by omega), new_tag 1 c⟩
  have HPOP := fun G hG a l hF ha A ka R ra S sa w h0 h1 h2 => poolPop c r (by omega) G hG A ka R ra S sa w h0 h1 h2 a l hF ha
  have HNONE := fun G hG hF A ka R ra S sa w h0 h1 h2 => poolNone c r (by omega) G hG A ka R ra S sa w h0 h1 h2 hF
  have HPUSH := fun G hG q hq1 hq A ka R ra S sa w h0 h1 h2 => poolPush c r (by omega) G hG A ka R ra S sa w h0 h1 h2 q hq1 hq
  have HFREE : ∀ (A : Option Addr) (ka : Nat) (G : Nat → Nat) (l : List Nat), FreeIs 1 G l → (∀ a ∈ l, a ≤ c) → l.length ≤ c → ∀ w, Hid (AtW w A (sizeN 1 c) G) → Calls Try.prog 16 #[.agg #[.int .i64 1, .int .i64 (c : Int), .slice A (sizeN 1 c) ka]] w (FreePost w l) := fun A ka G l hF hl hll w hA => free_at 1 c (by decide) (by omega) A (sizeN 1 c) ka rfl G l hF hl hll w hA
  have HSZ : Hid (1 < sizeN 1 c) := Lib.hid size_pos
  have HCK := Lib.hid hc1
  have HLN := Lib.hid hln
  have BW : Hid (w.heap.size ≤ w.heap.size) := Lib.hid (Nat.le_refl _)
  generalize newF 1 c = G0 at *
  generalize hn : sizeN 1 c = n at *
  clear hr hc hn hln
  go_enter Try.func5, Try.ntmps5
  go_wp2_with fail
  (with_reducible refine (poolShown _).mono ?_)
  rintro e w1 ⟨rfl, hb⟩
  have BB := Lib.hid hb
  clear hb
  have BWn : Hid (w.heap.size ≤ w1.heap.size) := Lib.hid BB.out.size
  clear BW; have BW := BWn; clear BWn
  go_wp2_with fail
  try rw [q1]
  (with_reducible refine (HNEW _).mono ?_)
  clear HNEW q1
  rintro e w0 ⟨A0, ka0, R0, ra0, S0, sa0, rfl, ha, hs0, hs1, hb, hP⟩
  go_upto_region 6 with fail
  have hal := al_below w0 (.cells #[.int .i64 1, .int .i64 (c : Int), .slice A0 n ka0, .int .u64 (r : Int), .slice R0 1 ra0, .slice S0 1 sa0] 51)
  have hbn := hb.trans (hal.mono hb.size)
  have W0 : Hid (WdFrom (fun b => b ≠ w0.heap.size) (fun _ => False) (w0.alloc (.cells #[.int .i64 1, .int .i64 (c : Int), .slice A0 n ka0, .int .u64 (r : Int), .slice R0 1 ra0, .slice S0 1 sa0] 51)) w0.heap.size 1 (c : Int) n r 1 G0 (zerosS 1) (zerosS 1)) := Lib.hid ⟨A0, ka0, R0, ra0, S0, sa0, WdAt.made0 (t := 1) (c := (c : Int)) (k := ka0) (r := r) (ra := ra0) (sa := sa0) w0 51 ha hs0 hs1, ha.old.mono fun b hb => (by omega), (hs0.old.mono fun b hb => (by omega : b ≠ w0.heap.size)).later hs0 hal, (hs1.old.mono fun b hb => (by omega : b ≠ w0.heap.size)).later hs1 hal, fun P h => h.elim⟩
  generalize w0.alloc (.cells #[.int .i64 1, .int .i64 (c : Int), .slice A0 n ka0, .int .u64 (r : Int), .slice R0 1 ra0, .slice S0 1 sa0] 51) = x0 at hal hbn W0 ⊢
  have BBn := Lib.hid (BB.out.trans (hbn.mono BB.out.size)); clear BB; have BB := BBn; clear BBn
  have HG0 : Hid (w.heap.size ≤ w0.heap.size) := Lib.hid (Nat.le_trans BW.out hb.size)
  generalize w0.heap.size = b0 at W0 HG0 ⊢
  clear ha hs0 hs1 hb hP hal hbn
  have hgz : b0 < x0.heap.size := W0.out.lt
  have HZ : Hid (RunT w b0 (b0 + 1) (c : Int) n r (.slice none 0 0) [] G0 x0) := Lib.hid ⟨BB.out, hgz, ⟨HG0.out, Nat.lt_succ_self _⟩, W0.out.sub (fun b _ hb => ⟨hb, hb, fun k hk => by cases hk⟩), OwnI.nil _ _⟩
  clear W0 hgz d1 d1'
  go_wp2_with fail
  go_loopw [8, 9, 10] (fun u8 u9 u10 wr => ∃ (i tg : Nat) (G : Nat → Nat) (l hs : List Nat), i ≤ ln ∧ u10 = .int .i64 (i : Int) ∧ u9 = .int .u64 (tg : Int) ∧ tg ≤ i ∧ tagN (G 1) = tg ∧ Parts c G l hs ∧ RunT w b0 (b0 + 1) (c : Int) n r u8 hs G wr) (fun _ _ u _ => ln - (intOf u).toNat)
  case atStart => exact ⟨0, 0, G0, _, [], Nat.zero_le _, rfl, rfl, Nat.le_refl _, HP0.out.2, HP0.out.1, HZ.out⟩
  case round =>
    clear HZ HP0 BB
    clear x0
    obtain ⟨i, tg, G, l, hs, hiln, rfl, rfl, htg, htag, hpt, hrun⟩ := hrel
    have HR := Lib.hid hrun
    have HPT := Lib.hid hpt
    have HTG := Lib.hid htag
    obtain ⟨vA, vcap, rfl, hvc, hmx, hcells⟩ := hrun.own.form
    have HOWN := Lib.hid hrun.own
    have HVlt := Lib.hid (fun k hk => (hrun.own.lt k hk).2)
    have BB := Lib.hid hrun.below
    have HWD := Lib.hid hrun.run
    have HSZR := Lib.hid hrun.size
    have hhl : hs.length ≤ 8 := by have := hpt.len; have := HCK.out; omega
    clear hrun hpt htag hmx
    have hln40 := HLN.out
    by_cases hlt : i < ln
    · have d1 : decide ((i : Int) < (ln : Int)) = true := by rw [decide_eq_true_iff]; omega
      have d1' : decide (i < ln) = true := by rw [decide_eq_true_iff]; omega
      obtain ⟨lb, lo, rfl, hlb, hlc⟩ := (AtB.later HL BB.out).2.2.2 (by omega)
      have hx := hlc i hlt
      have hxb : xs.getD i 0 < 256 := by
        have h1 := HL.out.2.1
        have h2 := HL.out.1
        rw [List.getD_eq_getElem?_getD, List.getElem?_eq_getElem (by omega)]
        exact h1 _ (List.getElem_mem _)
      generalize xs.getD i 0 = x at hx hxb
      have i0 : (0 : Int) ≤ (i : Int) := by omega
      have i1 : (i : Int) < (ln : Int) := by omega
      clear hlc
      generalize hk : hs.length = k at *
      have HKL := Lib.hid hk
      clear hk
      by_cases hpush : x % 2 = 1 ∧ 0 < k
      · obtain ⟨hx1, hk0⟩ := hpush
        obtain ⟨k1, rfl⟩ : ∃ k1, k = k1 + 1 := ⟨k - 1, by omega⟩
        obtain ⟨hs', q, rfl⟩ : ∃ hs' q, hs = hs' ++ [q] := ⟨hs.dropLast, hs.getLast (by intro h; have := HKL.out; rw [h] at this; simp at this), (List.dropLast_concat_getLast _).symm⟩
        have hkl : hs'.length = k1 := by have := HKL.out; simp at this; exact this
        have hq9 := hcells k1 q (by rw [← hkl]; simp)
        obtain ⟨g, rfl, hg1, hg2, r1⟩ := hq9
        have hqm := HPT.out.le q (by simp)
        have hG : ∀ j, G j < 18446744073709551616 := by obtain ⟨_, _, _, _, _, _, hW, _⟩ := HWD.out; exact hW.2.1.1
        have HPU := HPUSH G hG q hqm.1 hqm.2
        have HPT2 := Lib.hid (HPT.out.last (by have := HCK.out; omega))
        obtain ⟨t1, ht1⟩ : ∃ t1, t1 = tg + 1 := ⟨_, rfl⟩
        have HTT := Lib.hid ht1
        have hw1 : IntKind.u64.wrap ((tg : Int) + 1) = (t1 : Int) := by rw [IntKind.wrap_u64]; omega
        have HTG2 : Hid (tagN (pushG 1 q G 1) = t1) := Lib.hid (by rw [tag_push 1 q G (by have := HCK.out; omega), HTG.out, ht1]; omega)
        generalize pushG 1 q G = G5 at *
        have dx : ((x : Int) % 2 == 1) = true := by rw [beq_iff_eq]; omega
        have dk : decide ((0 : Int) < (k1 : Int) + 1) = true := by rw [decide_eq_true_iff]; omega
        have dk' : decide (0 < k1 + 1) = true := by rw [decide_eq_true_iff]; omega
        have i2 : (0 : Int) ≤ (k1 : Int) := by omega
        have i3 : (k1 : Int) < (k1 : Int) + 1 := by omega
        have hcut := run_cutI_h (some ⟨g, 0, none⟩) (k1 + 1) vcap k1 (by omega)
        clear hx1 hk0 hqm hG ht1 HPOP HNONE HPUSH HFREE hcells
        go_upto_region 14 with fail
        refine gen_w (P := fun W => Code.wp _ _ _ _ W) (fun y => Below wr.heap.size wr y ∧ VarAt y wr.heap.size [.int .i64 2, .int .i64 (q : Int), .int .i64 0, .int .u64 0]) ⟨(by repeat (first | with_reducible assumption | with_reducible exact Below.refl _ _ | with_reducible refine Below.drew ?_ | with_reducible refine below_al ?_ | (with_reducible refine below_set1 (by omega) _ ?_))), VarAt.mk4 (by simp) (by go_simp) (by go_simp) (by go_simp) (by go_simp) (by go_simp) (by go_simp) (by go_simp) (by go_simp)⟩ ?_
        rintro y ⟨hy, hop⟩
        have HRy := Lib.hid (HR.out.later hy)
        have OPV := Lib.hid hop
        obtain ⟨opb, hopb⟩ : ∃ b, wr.heap.size = b := ⟨_, rfl⟩
        have HOB : Hid (b0 + 1 ≤ opb) := Lib.hid (by rw [← hopb]; exact HSZR.out)
        rw [hopb] at OPV ⊢
        clear hy hop hopb
        have HWDy := Lib.hid HRy.out.run
        have HOWNy := Lib.hid HRy.out.own
        have HVlty := Lib.hid (fun k hk => (HRy.out.own.lt k hk).2)
        have BBy := Lib.hid HRy.out.below
        clear HVlt HOWN BB HWD HR
        have HVlt := HVlty
        have HOWN := HOWNy
        have BB := BBy
        clear HVlty HOWNy BBy
        obtain ⟨A1, ka1, R1, ra1, S1, sa1, hW, o0, o1, o2, _⟩ := HWDy.out
        have W1 := Lib.hid hW
        have O1 := Lib.hid (And.intro o0 (And.intro o1 o2))
        obtain ⟨c0, c1, c2, c3, c4, c5⟩ := hW.cells
        have HGlt := Lib.hid hW.1.1
        clear hW o0 o1 o2
        have WV := Lib.hid W1.out.1
        obtain ⟨op0, op1, op2, op3⟩ : y.cell? ⟨opb, 0, none⟩ = some (.int .i64 2) ∧ y.cell? ⟨opb, 1, none⟩ = some (.int .i64 (q : Int)) ∧ y.cell? ⟨opb, 2, none⟩ = some (.int .i64 0) ∧ y.cell? ⟨opb, 3, none⟩ = some (.int .u64 0) := ⟨OPV.out.2.1 0 _ rfl, OPV.out.2.1 1 _ rfl, OPV.out.2.1 2 _ rfl, OPV.out.2.1 3 _ rfl⟩
        go_wp2_with fail
        (with_reducible refine (HPU A1 ka1 R1 ra1 S1 sa1 _ W1.out.gA W1.out.g0 W1.out.g1).mono ?_)
        clear HPU c0 c1 c2 c3 c4 c5 op0 op1 op2 op3
        rintro e w3 ⟨A3, ka3, R3, ra3, S3, sa3, rfl, ha, hs0, hs1, hb, hP⟩
        go_upto_region 17 with fail
        have hbx : Below w3.heap.size w3 ((w3.alloc (.cells #[.int .i64 1, .int .i64 (c : Int), .slice A3 n ka3, .int .u64 (r : Int), .slice R3 1 ra3, .slice S3 1 sa3] 51)).alloc (.cells #[.int .i64 0, .bool false, .int .i64 0, .int .u64 0, .slice none 0 0] 37)) := below_pair _ _ _
        have W3 := Lib.hid (WdAt.made (t := 1) (c := (c : Int)) (k := ka3) (r := r) (ra := ra3) (sa := sa3) w3 (.cells #[.int .i64 0, .bool false, .int .i64 0, .int .u64 0, .slice none 0 0] 37) 51 ha hs0 hs1)
        have O3 := Lib.hid (VarAt.made1 w3 (.cells #[.int .i64 1, .int .i64 (c : Int), .slice A3 n ka3, .int .u64 (r : Int), .slice R3 1 ra3, .slice S3 1 sa3] 51) #[.int .i64 0, .bool false, .int .i64 0, .int .u64 0, .slice none 0 0] 37)
        have hbn := hb.trans (hbx.mono hb.size)
        have HS3 := Lib.hid (And.intro hs0 hs1)
        have HX3 := Lib.hid hbx
        have HB3 := Lib.hid hb
        have HP3 := Lib.hid hP
        generalize (w3.alloc (.cells #[.int .i64 1, .int .i64 (c : Int), .slice A3 n ka3, .int .u64 (r : Int), .slice R3 1 ra3, .slice S3 1 sa3] 51)).alloc (.cells #[.int .i64 0, .bool false, .int .i64 0, .int .u64 0, .slice none 0 0] 37) = x3 at hbx hbn W3 O3 HX3 ⊢
        have WVn := Lib.hid (WV.out.below hbn); clear WV; have WV := WVn; clear WVn
        have HOWNn := Lib.hid (HOWN.out.later hbn); clear HOWN; have HOWN := HOWNn; clear HOWNn
        have OPVn := Lib.hid (OPV.out.below hbn); clear OPV; have OPV := OPVn; clear OPVn
        have BBn := Lib.hid (BB.out.trans (hbn.mono BB.out.size)); clear BB; have BB := BBn; clear BBn
        clear ha hs0 hs1 hb hP hbx hbn
        have hgx : b0 < x3.heap.size := WV.out.1
        have nb : ¬ (w3.heap.size = b0) := by have := HB3.out.size; have := HGlt.out; omega
        have nb' : ¬ (b0 = w3.heap.size) := fun e => nb e.symm
        have OF3 : Hid (OffW (Nt b0 b0 (.slice (some ⟨g, 0, none⟩) (k1 + 1) vcap)) A3 n ∧ OffS (Nt b0 b0 (.slice (some ⟨g, 0, none⟩) (k1 + 1) vcap)) x3 R3 1 ∧ OffS (Nt b0 b0 (.slice (some ⟨g, 0, none⟩) (k1 + 1) vcap)) x3 S3 1) := Lib.hid (by
          obtain ⟨q0, q1, q2⟩ := HP3.out (Nt b0 b0 (.slice (some ⟨g, 0, none⟩) (k1 + 1) vcap)) ⟨fun b hb => ⟨by have := HGlt.out; omega, by have := HGlt.out; omega, fun k hk => by have := HVlt.out k hk; omega⟩, O1.out.1, O1.out.2.1, O1.out.2.2⟩
          exact ⟨q0, q1.later HS3.out.1 HX3.out, q2.later HS3.out.2 HX3.out⟩)
        obtain ⟨_, ⟨e0, e1, e2, e3, e4, e5⟩, _⟩ := W3.out.1.six
        obtain ⟨zx, ⟨y0, y1, y2, y3, y4, y5⟩, f0, f1, f2, f3, f4, f5⟩ := WV.out.six
        have hob := HOB.out
        have hg0 := HG0.out
        have hbb := BB.out
        have hs3 : y.heap.size ≤ w3.heap.size := HB3.out.size
        have hszy := HRy.out.size
        have hglt := HGlt.out
        go_upto_region 18 with fail
        refine gen_w (P := fun W => Code.wp _ _ _ _ W) (fun z => RunT w b0 (b0 + 1) (c : Int) n r (.slice (some ⟨g, 0, none⟩) (k1 + 1) vcap) (hs' ++ [q]) G5 z ∧ VarAt z opb [.int .i64 2, .int .i64 (q : Int), .int .i64 0, .int .u64 0] ∧ VarAt z (w3.heap.size + 1) [.int .i64 0, .bool false, .int .i64 0, .int .u64 0, .slice none 0 0]) ⟨⟨(by repeat (first | with_reducible assumption | with_reducible refine Below.drew ?_ | with_reducible refine below_al ?_ | (with_reducible refine below_set1 (by omega) _ ?_))), by simp; omega, by omega, ⟨A3, ka3, R3, ra3, S3, sa3, ⟨VarAt.of6 (by simp; omega) (by go_simp) (by go_simp) (by go_simp) (by go_simp) (by go_simp) (by go_simp) (by go_simp) (by go_simp) (by go_simp) (by go_simp) (by go_simp) (by go_simp), W3.out.2.1.keep (Q := Nt b0 b0 (.slice (some ⟨g, 0, none⟩) (k1 + 1) vcap)) (by repeat (first | with_reducible exact Keep.refl _ _ | with_reducible refine Keep.drew ?_ | with_reducible refine Keep.alloc ?_ _ | (with_reducible refine Keep.set ?_ _ _ _ (by unfold Nt; omega)))) OF3.out.1, W3.out.2.2.1.keep (Q := Nt b0 b0 (.slice (some ⟨g, 0, none⟩) (k1 + 1) vcap)) (by repeat (first | with_reducible exact Keep.refl _ _ | with_reducible refine Keep.drew ?_ | with_reducible refine Keep.alloc ?_ _ | (with_reducible refine Keep.set ?_ _ _ _ (by unfold Nt; omega)))) OF3.out.2.1, W3.out.2.2.2.keep (Q := Nt b0 b0 (.slice (some ⟨g, 0, none⟩) (k1 + 1) vcap)) (by repeat (first | with_reducible exact Keep.refl _ _ | with_reducible refine Keep.drew ?_ | with_reducible refine Keep.alloc ?_ _ | (with_reducible refine Keep.set ?_ _ _ _ (by unfold Nt; omega)))) OF3.out.2.2⟩, OF3.out.1, OF3.out.2.1.keep W3.out.2.2.1 (Q := Nt b0 b0 (.slice (some ⟨g, 0, none⟩) (k1 + 1) vcap)) (by repeat (first | with_reducible exact Keep.refl _ _ | with_reducible refine Keep.drew ?_ | with_reducible refine Keep.alloc ?_ _ | (with_reducible refine Keep.set ?_ _ _ _ (by unfold Nt; omega)))) OF3.out.2.1, OF3.out.2.2.keep W3.out.2.2.2 (Q := Nt b0 b0 (.slice (some ⟨g, 0, none⟩) (k1 + 1) vcap)) (by repeat (first | with_reducible exact Keep.refl _ _ | with_reducible refine Keep.drew ?_ | with_reducible refine Keep.alloc ?_ _ | (with_reducible refine Keep.set ?_ _ _ _ (by unfold Nt; omega)))) OF3.out.2.2, fun P h => h.elim⟩, (by repeat (first | with_reducible exact HOWN.out | (with_reducible refine OwnI.apart ?_ _ _ _ (by omega))))⟩, (by repeat (first | with_reducible exact OPV.out | (with_reducible refine VarAt.apart ?_ _ _ (by omega)))), (by repeat (first | with_reducible exact O3.out | (with_reducible refine VarAt.apart ?_ _ _ (by omega))))⟩ ?_
        rintro z ⟨hz, hzo, hz3⟩
        have HZ := Lib.hid hz
        obtain ⟨op0, op1, op2, op3⟩ : z.cell? ⟨opb, 0, none⟩ = some (.int .i64 2) ∧ z.cell? ⟨opb, 1, none⟩ = some (.int .i64 (q : Int)) ∧ z.cell? ⟨opb, 2, none⟩ = some (.int .i64 0) ∧ z.cell? ⟨opb, 3, none⟩ = some (.int .u64 0) := ⟨hzo.2.1 0 _ rfl, hzo.2.1 1 _ rfl, hzo.2.1 2 _ rfl, hzo.2.1 3 _ rfl⟩
        obtain ⟨m3, ⟨p1, p2, p3, p4, p5⟩, _⟩ := hz3.five
        generalize w3.heap.size + 1 = b13 at m3 p1 p2 p3 p4 p5 ⊢
        clear hz hzo hz3 e0 e1 e2 e3 e4 e5 y0 y1 y2 y3 y4 y5 f0 f1 f2 f3 f4 f5 zx nb nb' hgx hob hg0 hbb hs3 hszy hglt
        clear W3 O3 HS3 HX3 HB3 HP3 OF3 WV OPV HOWN W1 O1 HGlt HWDy HRy
        go_upto_region 24 with fail
        obtain ⟨A9, ka9, R9, ra9, S9, sa9, hW9, _⟩ := HZ.out.run
        obtain ⟨b9, o9, rfl, hb9, hc9⟩ := hW9.2.1.2 (by have := HSZ.out; omega)
        obtain ⟨k0, k1', k2, k3, k4, k5⟩ := hW9.cells
        have w1c := hc9 1 HSZ.out
        have i4 : (1 : Int) < (n : Int) := by have := HSZ.out; omega
        have HTC := fun w => refTag_any (G5 1) (hW9.2.1.1 1) w
        rw [HTG2.out] at HTC
        clear hW9 hb9 hc9
        go_wp2_with (go_at_call 17; (with_reducible refine (HTC _).mono ?_); rintro e w' ⟨rfl, rfl⟩)
        have htt := HTT.out
        go_roundw
        case rel => exact ⟨i + 1, t1, G5, (q :: l), hs', by omega, by go_num, rfl, by omega, HTG2.out, HPT2.out, by have h := HZ.out.cut (m := k1) (by rw [List.length_append, hkl]; omega) (by simp); rw [show (hs' ++ [q]).take k1 = hs' by rw [← hkl]; simp] at h; exact h⟩
        case measure => simp [intOf]; omega

      · by_cases hx1 : x % 2 = 1
        · have dx : ((x : Int) % 2 == 1) = true := by rw [beq_iff_eq]; omega
          have dk : decide ((0 : Int) < (k : Int)) = false := by rw [decide_eq_false_iff_not]; omega
          have dk' : decide (0 < k) = false := by rw [decide_eq_false_iff_not]; omega
          clear hx1
          cases l with
          | nil =>
            have hG : ∀ j, G j < 18446744073709551616 := by obtain ⟨_, _, _, _, _, _, hW, _⟩ := HWD.out; exact hW.2.1.1
            have HAL := HNONE G hG HPT.out.free
            have HPT2 := HPT
            have HTG2 := HTG
            have HTT : Hid (tg ≤ i) := Lib.hid htg
            clear hG HPOP HNONE HPUSH HFREE hcells hpush
            go_upto_region 14 with fail
            refine gen_w (P := fun W => Code.wp _ _ _ _ W) (fun y => Below wr.heap.size wr y ∧ VarAt y wr.heap.size [.int .i64 1, .int .i64 0, .int .i64 0, .int .u64 0]) ⟨(by repeat (first | with_reducible assumption | with_reducible exact Below.refl _ _ | with_reducible refine Below.drew ?_ | with_reducible refine below_al ?_ | (with_reducible refine below_set1 (by omega) _ ?_))), VarAt.mk4 (by simp) (by go_simp) (by go_simp) (by go_simp) (by go_simp) (by go_simp) (by go_simp) (by go_simp) (by go_simp)⟩ ?_
            rintro y ⟨hy, hop⟩
            have HRy := Lib.hid (HR.out.later hy)
            have OPV := Lib.hid hop
            obtain ⟨opb, hopb⟩ : ∃ b, wr.heap.size = b := ⟨_, rfl⟩
            have HOB : Hid (b0 + 1 ≤ opb) := Lib.hid (by rw [← hopb]; exact HSZR.out)
            rw [hopb] at OPV ⊢
            clear hy hop hopb
            have HWDy := Lib.hid HRy.out.run
            have HOWNy := Lib.hid HRy.out.own
            have HVlty := Lib.hid (fun k hk => (HRy.out.own.lt k hk).2)
            have BBy := Lib.hid HRy.out.below
            clear HVlt HOWN BB HWD HR
            have HVlt := HVlty
            have HOWN := HOWNy
            have BB := BBy
            clear HVlty HOWNy BBy
            obtain ⟨A1, ka1, R1, ra1, S1, sa1, hW, o0, o1, o2, _⟩ := HWDy.out
            have W1 := Lib.hid hW
            have O1 := Lib.hid (And.intro o0 (And.intro o1 o2))
            obtain ⟨c0, c1, c2, c3, c4, c5⟩ := hW.cells
            have HGlt := Lib.hid hW.1.1
            clear hW o0 o1 o2
            have WV := Lib.hid W1.out.1
            obtain ⟨op0, op1, op2, op3⟩ : y.cell? ⟨opb, 0, none⟩ = some (.int .i64 1) ∧ y.cell? ⟨opb, 1, none⟩ = some (.int .i64 0) ∧ y.cell? ⟨opb, 2, none⟩ = some (.int .i64 0) ∧ y.cell? ⟨opb, 3, none⟩ = some (.int .u64 0) := ⟨OPV.out.2.1 0 _ rfl, OPV.out.2.1 1 _ rfl, OPV.out.2.1 2 _ rfl, OPV.out.2.1 3 _ rfl⟩
            go_wp2_with fail
            (with_reducible refine (HAL A1 ka1 R1 ra1 S1 sa1 _ W1.out.gA W1.out.g0 W1.out.g1).mono ?_)
            clear HAL c0 c1 c2 c3 c4 c5 op0 op1 op2 op3
            rintro e w3 ⟨A3, ka3, R3, ra3, S3, sa3, rfl, ha, hs0, hs1, hb, hP⟩
            go_upto_region 17 with fail
            have hbx : Below w3.heap.size w3 ((w3.alloc (.cells #[.int .i64 1, .int .i64 (c : Int), .slice A3 n ka3, .int .u64 (r : Int), .slice R3 1 ra3, .slice S3 1 sa3] 51)).alloc (.cells #[.int .i64 0, .bool false, .int .i64 0, .int .u64 0, .slice none 0 0] 37)) := below_pair _ _ _
            have W3 := Lib.hid (WdAt.made (t := 1) (c := (c : Int)) (k := ka3) (r := r) (ra := ra3) (sa := sa3) w3 (.cells #[.int .i64 0, .bool false, .int .i64 0, .int .u64 0, .slice none 0 0] 37) 51 ha hs0 hs1)
            have O3 := Lib.hid (VarAt.made1 w3 (.cells #[.int .i64 1, .int .i64 (c : Int), .slice A3 n ka3, .int .u64 (r : Int), .slice R3 1 ra3, .slice S3 1 sa3] 51) #[.int .i64 0, .bool false, .int .i64 0, .int .u64 0, .slice none 0 0] 37)
            have hbn := hb.trans (hbx.mono hb.size)
            have HS3 := Lib.hid (And.intro hs0 hs1)
            have HX3 := Lib.hid hbx
            have HB3 := Lib.hid hb
            have HP3 := Lib.hid hP
            generalize (w3.alloc (.cells #[.int .i64 1, .int .i64 (c : Int), .slice A3 n ka3, .int .u64 (r : Int), .slice R3 1 ra3, .slice S3 1 sa3] 51)).alloc (.cells #[.int .i64 0, .bool false, .int .i64 0, .int .u64 0, .slice none 0 0] 37) = x3 at hbx hbn W3 O3 HX3 ⊢
            have WVn := Lib.hid (WV.out.below hbn); clear WV; have WV := WVn; clear WVn
            have HOWNn := Lib.hid (HOWN.out.later hbn); clear HOWN; have HOWN := HOWNn; clear HOWNn
            have OPVn := Lib.hid (OPV.out.below hbn); clear OPV; have OPV := OPVn; clear OPVn
            have BBn := Lib.hid (BB.out.trans (hbn.mono BB.out.size)); clear BB; have BB := BBn; clear BBn
            clear ha hs0 hs1 hb hP hbx hbn
            have hgx : b0 < x3.heap.size := WV.out.1
            have nb : ¬ (w3.heap.size = b0) := by have := HB3.out.size; have := HGlt.out; omega
            have nb' : ¬ (b0 = w3.heap.size) := fun e => nb e.symm
            have OF3 : Hid (OffW (Nt b0 b0 (.slice vA k vcap)) A3 n ∧ OffS (Nt b0 b0 (.slice vA k vcap)) x3 R3 1 ∧ OffS (Nt b0 b0 (.slice vA k vcap)) x3 S3 1) := Lib.hid (by
              obtain ⟨q0, q1, q2⟩ := HP3.out (Nt b0 b0 (.slice vA k vcap)) ⟨fun b hb => ⟨by have := HGlt.out; omega, by have := HGlt.out; omega, fun k hk => by have := HVlt.out k hk; omega⟩, O1.out.1, O1.out.2.1, O1.out.2.2⟩
              exact ⟨q0, q1.later HS3.out.1 HX3.out, q2.later HS3.out.2 HX3.out⟩)
            obtain ⟨_, ⟨e0, e1, e2, e3, e4, e5⟩, _⟩ := W3.out.1.six
            obtain ⟨zx, ⟨y0, y1, y2, y3, y4, y5⟩, f0, f1, f2, f3, f4, f5⟩ := WV.out.six
            have hob := HOB.out
            have hg0 := HG0.out
            have hbb := BB.out
            have hs3 : y.heap.size ≤ w3.heap.size := HB3.out.size
            have hszy := HRy.out.size
            have hglt := HGlt.out
            go_upto_region 18 with fail
            refine gen_w (P := fun W => Code.wp _ _ _ _ W) (fun z => RunT w b0 (b0 + 1) (c : Int) n r (.slice vA k vcap) hs G z ∧ VarAt z opb [.int .i64 1, .int .i64 0, .int .i64 0, .int .u64 0] ∧ VarAt z (w3.heap.size + 1) [.int .i64 0, .bool false, .int .i64 0, .int .u64 0, .slice none 0 0]) ⟨⟨(by repeat (first | with_reducible assumption | with_reducible refine Below.drew ?_ | with_reducible refine below_al ?_ | (with_reducible refine below_set1 (by omega) _ ?_))), by simp; omega, by omega, ⟨A3, ka3, R3, ra3, S3, sa3, ⟨VarAt.of6 (by simp; omega) (by go_simp) (by go_simp) (by go_simp) (by go_simp) (by go_simp) (by go_simp) (by go_simp) (by go_simp) (by go_simp) (by go_simp) (by go_simp) (by go_simp), W3.out.2.1.keep (Q := Nt b0 b0 (.slice vA k vcap)) (by repeat (first | with_reducible exact Keep.refl _ _ | with_reducible refine Keep.drew ?_ | with_reducible refine Keep.alloc ?_ _ | (with_reducible refine Keep.set ?_ _ _ _ (by unfold Nt; omega)))) OF3.out.1, W3.out.2.2.1.keep (Q := Nt b0 b0 (.slice vA k vcap)) (by repeat (first | with_reducible exact Keep.refl _ _ | with_reducible refine Keep.drew ?_ | with_reducible refine Keep.alloc ?_ _ | (with_reducible refine Keep.set ?_ _ _ _ (by unfold Nt; omega)))) OF3.out.2.1, W3.out.2.2.2.keep (Q := Nt b0 b0 (.slice vA k vcap)) (by repeat (first | with_reducible exact Keep.refl _ _ | with_reducible refine Keep.drew ?_ | with_reducible refine Keep.alloc ?_ _ | (with_reducible refine Keep.set ?_ _ _ _ (by unfold Nt; omega)))) OF3.out.2.2⟩, OF3.out.1, OF3.out.2.1.keep W3.out.2.2.1 (Q := Nt b0 b0 (.slice vA k vcap)) (by repeat (first | with_reducible exact Keep.refl _ _ | with_reducible refine Keep.drew ?_ | with_reducible refine Keep.alloc ?_ _ | (with_reducible refine Keep.set ?_ _ _ _ (by unfold Nt; omega)))) OF3.out.2.1, OF3.out.2.2.keep W3.out.2.2.2 (Q := Nt b0 b0 (.slice vA k vcap)) (by repeat (first | with_reducible exact Keep.refl _ _ | with_reducible refine Keep.drew ?_ | with_reducible refine Keep.alloc ?_ _ | (with_reducible refine Keep.set ?_ _ _ _ (by unfold Nt; omega)))) OF3.out.2.2, fun P h => h.elim⟩, (by repeat (first | with_reducible exact HOWN.out | (with_reducible refine OwnI.apart ?_ _ _ _ (by omega))))⟩, (by repeat (first | with_reducible exact OPV.out | (with_reducible refine VarAt.apart ?_ _ _ (by omega)))), (by repeat (first | with_reducible exact O3.out | (with_reducible refine VarAt.apart ?_ _ _ (by omega))))⟩ ?_
            rintro z ⟨hz, hzo, hz3⟩
            have HZ := Lib.hid hz
            obtain ⟨op0, op1, op2, op3⟩ : z.cell? ⟨opb, 0, none⟩ = some (.int .i64 1) ∧ z.cell? ⟨opb, 1, none⟩ = some (.int .i64 0) ∧ z.cell? ⟨opb, 2, none⟩ = some (.int .i64 0) ∧ z.cell? ⟨opb, 3, none⟩ = some (.int .u64 0) := ⟨hzo.2.1 0 _ rfl, hzo.2.1 1 _ rfl, hzo.2.1 2 _ rfl, hzo.2.1 3 _ rfl⟩
            obtain ⟨m3, ⟨p1, p2, p3, p4, p5⟩, _⟩ := hz3.five
            generalize w3.heap.size + 1 = b13 at m3 p1 p2 p3 p4 p5 ⊢
            clear hz hzo hz3 e0 e1 e2 e3 e4 e5 y0 y1 y2 y3 y4 y5 f0 f1 f2 f3 f4 f5 zx nb nb' hgx hob hg0 hbb hs3 hszy hglt
            clear W3 O3 HS3 HX3 HB3 HP3 OF3 WV OPV HOWN W1 O1 HGlt HWDy HRy
            go_upto_region 24 with fail
            obtain ⟨A9, ka9, R9, ra9, S9, sa9, hW9, _⟩ := HZ.out.run
            obtain ⟨b9, o9, rfl, hb9, hc9⟩ := hW9.2.1.2 (by have := HSZ.out; omega)
            obtain ⟨k0, k1', k2, k3, k4, k5⟩ := hW9.cells
            have w1c := hc9 1 HSZ.out
            have i4 : (1 : Int) < (n : Int) := by have := HSZ.out; omega
            have HTC := fun w => refTag_any (G 1) (hW9.2.1.1 1) w
            rw [HTG2.out] at HTC
            clear hW9 hb9 hc9
            go_wp2_with (go_at_call 17; (with_reducible refine (HTC _).mono ?_); rintro e w' ⟨rfl, rfl⟩)
            have htt := HTT.out
            go_roundw
            case rel => exact ⟨i + 1, tg, G, [], hs, by omega, by go_num, rfl, by omega, HTG2.out, HPT2.out, HZ.out⟩
            case measure => simp [intOf]; omega
          | cons a l =>
            have hG : ∀ j, G j < 18446744073709551616 := by obtain ⟨_, _, _, _, _, _, hW, _⟩ := HWD.out; exact hW.2.1.1
            have HAL := HPOP G hG a l HPT.out.free (HPT.out.le a (by simp)).2
            have ha1 := (HPT.out.le a (by simp)).1
            have HPT2 := Lib.hid HPT.out.pop
            obtain ⟨t1, ht1⟩ : ∃ t1, t1 = tg + 1 := ⟨_, rfl⟩
            have HTT := Lib.hid ht1
            have hw1 : IntKind.u64.wrap ((tg : Int) + 1) = (t1 : Int) := by rw [IntKind.wrap_u64]; omega
            have HTG2 : Hid (tagN (popG 1 G 1) = t1) := Lib.hid (by rw [tag_pop 1 G, HTG.out, ht1]; omega)
            generalize popG 1 G = G5 at *
            have da : decide ((0 : Int) < (a : Int)) = true := by rw [decide_eq_true_iff]; omega
            have da' : decide (0 < a) = true := by rw [decide_eq_true_iff]; omega
            clear hG ht1 HPOP HNONE HPUSH HFREE hcells hpush ha1
            go_upto_region 14 with fail
            refine gen_w (P := fun W => Code.wp _ _ _ _ W) (fun y => Below wr.heap.size wr y ∧ VarAt y wr.heap.size [.int .i64 1, .int .i64 0, .int .i64 0, .int .u64 0]) ⟨(by repeat (first | with_reducible assumption | with_reducible exact Below.refl _ _ | with_reducible refine Below.drew ?_ | with_reducible refine below_al ?_ | (with_reducible refine below_set1 (by omega) _ ?_))), VarAt.mk4 (by simp) (by go_simp) (by go_simp) (by go_simp) (by go_simp) (by go_simp) (by go_simp) (by go_simp) (by go_simp)⟩ ?_
            rintro y ⟨hy, hop⟩
            have HRy := Lib.hid (HR.out.later hy)
            have OPV := Lib.hid hop
            obtain ⟨opb, hopb⟩ : ∃ b, wr.heap.size = b := ⟨_, rfl⟩
            have HOB : Hid (b0 + 1 ≤ opb) := Lib.hid (by rw [← hopb]; exact HSZR.out)
            rw [hopb] at OPV ⊢
            clear hy hop hopb
            have HWDy := Lib.hid HRy.out.run
            have HOWNy := Lib.hid HRy.out.own
            have HVlty := Lib.hid (fun k hk => (HRy.out.own.lt k hk).2)
            have BBy := Lib.hid HRy.out.below
            clear HVlt HOWN BB HWD HR
            have HVlt := HVlty
            have HOWN := HOWNy
            have BB := BBy
            clear HVlty HOWNy BBy
            obtain ⟨A1, ka1, R1, ra1, S1, sa1, hW, o0, o1, o2, _⟩ := HWDy.out
            have W1 := Lib.hid hW
            have O1 := Lib.hid (And.intro o0 (And.intro o1 o2))
            obtain ⟨c0, c1, c2, c3, c4, c5⟩ := hW.cells
            have HGlt := Lib.hid hW.1.1
            clear hW o0 o1 o2
            have WV := Lib.hid W1.out.1
            obtain ⟨op0, op1, op2, op3⟩ : y.cell? ⟨opb, 0, none⟩ = some (.int .i64 1) ∧ y.cell? ⟨opb, 1, none⟩ = some (.int .i64 0) ∧ y.cell? ⟨opb, 2, none⟩ = some (.int .i64 0) ∧ y.cell? ⟨opb, 3, none⟩ = some (.int .u64 0) := ⟨OPV.out.2.1 0 _ rfl, OPV.out.2.1 1 _ rfl, OPV.out.2.1 2 _ rfl, OPV.out.2.1 3 _ rfl⟩
            go_wp2_with fail
            (with_reducible refine (HAL A1 ka1 R1 ra1 S1 sa1 _ W1.out.gA W1.out.g0 W1.out.g1).mono ?_)
            clear HAL c0 c1 c2 c3 c4 c5 op0 op1 op2 op3
            rintro e w3 ⟨A3, ka3, R3, ra3, S3, sa3, rfl, ha, hs0, hs1, hb, hP⟩
            go_upto_region 17 with fail
            have hbx : Below w3.heap.size w3 ((w3.alloc (.cells #[.int .i64 1, .int .i64 (c : Int), .slice A3 n ka3, .int .u64 (r : Int), .slice R3 1 ra3, .slice S3 1 sa3] 51)).alloc (.cells #[.int .i64 0, .bool false, .int .i64 (a : Int), .int .u64 0, .slice none 0 0] 37)) := below_pair _ _ _
            have W3 := Lib.hid (WdAt.made (t := 1) (c := (c : Int)) (k := ka3) (r := r) (ra := ra3) (sa := sa3) w3 (.cells #[.int .i64 0, .bool false, .int .i64 (a : Int), .int .u64 0, .slice none 0 0] 37) 51 ha hs0 hs1)
            have O3 := Lib.hid (VarAt.made1 w3 (.cells #[.int .i64 1, .int .i64 (c : Int), .slice A3 n ka3, .int .u64 (r : Int), .slice R3 1 ra3, .slice S3 1 sa3] 51) #[.int .i64 0, .bool false, .int .i64 (a : Int), .int .u64 0, .slice none 0 0] 37)
            have hbn := hb.trans (hbx.mono hb.size)
            have HS3 := Lib.hid (And.intro hs0 hs1)
            have HX3 := Lib.hid hbx
            have HB3 := Lib.hid hb
            have HP3 := Lib.hid hP
            generalize (w3.alloc (.cells #[.int .i64 1, .int .i64 (c : Int), .slice A3 n ka3, .int .u64 (r : Int), .slice R3 1 ra3, .slice S3 1 sa3] 51)).alloc (.cells #[.int .i64 0, .bool false, .int .i64 (a : Int), .int .u64 0, .slice none 0 0] 37) = x3 at hbx hbn W3 O3 HX3 ⊢
            have WVn := Lib.hid (WV.out.below hbn); clear WV; have WV := WVn; clear WVn
            have HOWNn := Lib.hid (HOWN.out.later hbn); clear HOWN; have HOWN := HOWNn; clear HOWNn
            have OPVn := Lib.hid (OPV.out.below hbn); clear OPV; have OPV := OPVn; clear OPVn
            have BBn := Lib.hid (BB.out.trans (hbn.mono BB.out.size)); clear BB; have BB := BBn; clear BBn
            clear ha hs0 hs1 hb hP hbx hbn
            have hgx : b0 < x3.heap.size := WV.out.1
            have nb : ¬ (w3.heap.size = b0) := by have := HB3.out.size; have := HGlt.out; omega
            have nb' : ¬ (b0 = w3.heap.size) := fun e => nb e.symm
            have OF3 : Hid (OffW (Nt b0 b0 (.slice vA k vcap)) A3 n ∧ OffS (Nt b0 b0 (.slice vA k vcap)) x3 R3 1 ∧ OffS (Nt b0 b0 (.slice vA k vcap)) x3 S3 1) := Lib.hid (by
              obtain ⟨q0, q1, q2⟩ := HP3.out (Nt b0 b0 (.slice vA k vcap)) ⟨fun b hb => ⟨by have := HGlt.out; omega, by have := HGlt.out; omega, fun k hk => by have := HVlt.out k hk; omega⟩, O1.out.1, O1.out.2.1, O1.out.2.2⟩
              exact ⟨q0, q1.later HS3.out.1 HX3.out, q2.later HS3.out.2 HX3.out⟩)
            obtain ⟨_, ⟨e0, e1, e2, e3, e4, e5⟩, _⟩ := W3.out.1.six
            obtain ⟨zx, ⟨y0, y1, y2, y3, y4, y5⟩, f0, f1, f2, f3, f4, f5⟩ := WV.out.six
            have hob := HOB.out
            have hg0 := HG0.out
            have hbb := BB.out
            have hs3 : y.heap.size ≤ w3.heap.size := HB3.out.size
            have hszy := HRy.out.size
            have hglt := HGlt.out
            go_upto_region 18 with fail
            refine gen_w (P := fun W => Code.wp _ _ _ _ W) (fun z => RunT w b0 (b0 + 1) (c : Int) n r (.slice vA k vcap) hs G5 z ∧ VarAt z opb [.int .i64 1, .int .i64 0, .int .i64 0, .int .u64 0] ∧ VarAt z (w3.heap.size + 1) [.int .i64 0, .bool false, .int .i64 (a : Int), .int .u64 0, .slice none 0 0]) ⟨⟨(by repeat (first | with_reducible assumption | with_reducible refine Below.drew ?_ | with_reducible refine below_al ?_ | (with_reducible refine below_set1 (by omega) _ ?_))), by simp; omega, by omega, ⟨A3, ka3, R3, ra3, S3, sa3, ⟨VarAt.of6 (by simp; omega) (by go_simp) (by go_simp) (by go_simp) (by go_simp) (by go_simp) (by go_simp) (by go_simp) (by go_simp) (by go_simp) (by go_simp) (by go_simp) (by go_simp), W3.out.2.1.keep (Q := Nt b0 b0 (.slice vA k vcap)) (by repeat (first | with_reducible exact Keep.refl _ _ | with_reducible refine Keep.drew ?_ | with_reducible refine Keep.alloc ?_ _ | (with_reducible refine Keep.set ?_ _ _ _ (by unfold Nt; omega)))) OF3.out.1, W3.out.2.2.1.keep (Q := Nt b0 b0 (.slice vA k vcap)) (by repeat (first | with_reducible exact Keep.refl _ _ | with_reducible refine Keep.drew ?_ | with_reducible refine Keep.alloc ?_ _ | (with_reducible refine Keep.set ?_ _ _ _ (by unfold Nt; omega)))) OF3.out.2.1, W3.out.2.2.2.keep (Q := Nt b0 b0 (.slice vA k vcap)) (by repeat (first | with_reducible exact Keep.refl _ _ | with_reducible refine Keep.drew ?_ | with_reducible refine Keep.alloc ?_ _ | (with_reducible refine Keep.set ?_ _ _ _ (by unfold Nt; omega)))) OF3.out.2.2⟩, OF3.out.1, OF3.out.2.1.keep W3.out.2.2.1 (Q := Nt b0 b0 (.slice vA k vcap)) (by repeat (first | with_reducible exact Keep.refl _ _ | with_reducible refine Keep.drew ?_ | with_reducible refine Keep.alloc ?_ _ | (with_reducible refine Keep.set ?_ _ _ _ (by unfold Nt; omega)))) OF3.out.2.1, OF3.out.2.2.keep W3.out.2.2.2 (Q := Nt b0 b0 (.slice vA k vcap)) (by repeat (first | with_reducible exact Keep.refl _ _ | with_reducible refine Keep.drew ?_ | with_reducible refine Keep.alloc ?_ _ | (with_reducible refine Keep.set ?_ _ _ _ (by unfold Nt; omega)))) OF3.out.2.2, fun P h => h.elim⟩, (by repeat (first | with_reducible exact HOWN.out | (with_reducible refine OwnI.apart ?_ _ _ _ (by omega))))⟩, (by repeat (first | with_reducible exact OPV.out | (with_reducible refine VarAt.apart ?_ _ _ (by omega)))), (by repeat (first | with_reducible exact O3.out | (with_reducible refine VarAt.apart ?_ _ _ (by omega))))⟩ ?_
            rintro z ⟨hz, hzo, hz3⟩
            have HZ := Lib.hid hz
            obtain ⟨op0, op1, op2, op3⟩ : z.cell? ⟨opb, 0, none⟩ = some (.int .i64 1) ∧ z.cell? ⟨opb, 1, none⟩ = some (.int .i64 0) ∧ z.cell? ⟨opb, 2, none⟩ = some (.int .i64 0) ∧ z.cell? ⟨opb, 3, none⟩ = some (.int .u64 0) := ⟨hzo.2.1 0 _ rfl, hzo.2.1 1 _ rfl, hzo.2.1 2 _ rfl, hzo.2.1 3 _ rfl⟩
            obtain ⟨m3, ⟨p1, p2, p3, p4, p5⟩, _⟩ := hz3.five
            generalize w3.heap.size + 1 = b13 at m3 p1 p2 p3 p4 p5 ⊢
            clear hz hzo hz3 e0 e1 e2 e3 e4 e5 y0 y1 y2 y3 y4 y5 f0 f1 f2 f3 f4 f5 zx nb nb' hgx hob hg0 hbb hs3 hszy hglt
            clear W3 O3 HS3 HX3 HB3 HP3 OF3 WV OPV HOWN W1 O1 HGlt HWDy HRy
            go_upto_region 22 with fail
            have HM9 : Hid (hs.length ≤ 900000) := Lib.hid (by have := HKL.out; omega)
            have HOA : Hid (∀ o, OwnI (z.alloc o) (b0 + 1) (.slice vA k vcap) hs) := Lib.hid (fun o => HZ.out.own.later (al_below z o))
            have HZ1 : Hid (∀ o, b0 + 1 ≤ (z.alloc o).heap.size) := Lib.hid (fun o => Nat.le_trans HZ.out.size (al_below z o).size)
            have HNX : Hid (∀ o v' w', OwnI w' (b0 + 1) v' (hs ++ [a]) → (z.alloc o).grownBy w' (Value.slice vA k vcap).ownBlock → (v'.ownBlock = (Value.slice vA k vcap).ownBlock ∨ v'.ownBlock = some (z.alloc o).heap.size) → RunT w b0 (b0 + 1) (c : Int) n r v' (hs ++ [a]) G5 w') := Lib.hid (fun o v' w' h1 h2 h3 => (HZ.out.later (al_below z o)).next h1 h2 h3)
            clear HZ
            go_upto_region 24 with (at_builtin; (refine wpList_appendI (by rfl) (.tmp 73) (.tmp 76) (by rfl) (b0 + 1) (.slice vA k vcap) hs (by rfl) (HOA.out _) z.heap.size 1 a (by rfl) (by go_simp) HM9.out (HZ1.out _) ?_); (intro v9 w9 hown9 hg9 hv9; have HZ := Lib.hid (HNX.out _ _ _ hown9 hg9 hv9); clear hown9 hg9 hv9 HNX HOA HZ1))
            obtain ⟨A9, ka9, R9, ra9, S9, sa9, hW9, _⟩ := HZ.out.run
            obtain ⟨b9, o9, rfl, hb9, hc9⟩ := hW9.2.1.2 (by have := HSZ.out; omega)
            obtain ⟨k0, k1', k2, k3, k4, k5⟩ := hW9.cells
            have w1c := hc9 1 HSZ.out
            have i4 : (1 : Int) < (n : Int) := by have := HSZ.out; omega
            have HTC := fun w => refTag_any (G5 1) (hW9.2.1.1 1) w
            rw [HTG2.out] at HTC
            clear hW9 hb9 hc9
            go_wp2_with (go_at_call 17; (with_reducible refine (HTC _).mono ?_); rintro e w' ⟨rfl, rfl⟩)
            have htt := HTT.out
            go_roundw
            case rel => exact ⟨i + 1, t1, G5, l, (hs ++ [a]), by omega, by go_num, rfl, by omega, HTG2.out, HPT2.out, HZ.out⟩
            case measure => simp [intOf]; omega


        · have dx : ((x : Int) % 2 == 1) = false := by rw [beq_eq_false_iff_ne]; omega
          clear hx1
          cases l with
          | nil =>
            have hG : ∀ j, G j < 18446744073709551616 := by obtain ⟨_, _, _, _, _, _, hW, _⟩ := HWD.out; exact hW.2.1.1
            have HAL := HNONE G hG HPT.out.free
            have HPT2 := HPT
            have HTG2 := HTG
            have HTT : Hid (tg ≤ i) := Lib.hid htg
            clear hG HPOP HNONE HPUSH HFREE hcells hpush
            go_upto_region 14 with fail
            refine gen_w (P := fun W => Code.wp _ _ _ _ W) (fun y => Below wr.heap.size wr y ∧ VarAt y wr.heap.size [.int .i64 1, .int .i64 0, .int .i64 0, .int .u64 0]) ⟨(by repeat (first | with_reducible assumption | with_reducible exact Below.refl _ _ | with_reducible refine Below.drew ?_ | with_reducible refine below_al ?_ | (with_reducible refine below_set1 (by omega) _ ?_))), VarAt.mk4 (by simp) (by go_simp) (by go_simp) (by go_simp) (by go_simp) (by go_simp) (by go_simp) (by go_simp) (by go_simp)⟩ ?_
            rintro y ⟨hy, hop⟩
            have HRy := Lib.hid (HR.out.later hy)
            have OPV := Lib.hid hop
            obtain ⟨opb, hopb⟩ : ∃ b, wr.heap.size = b := ⟨_, rfl⟩
            have HOB : Hid (b0 + 1 ≤ opb) := Lib.hid (by rw [← hopb]; exact HSZR.out)
            rw [hopb] at OPV ⊢
            clear hy hop hopb
            have HWDy := Lib.hid HRy.out.run
            have HOWNy := Lib.hid HRy.out.own
            have HVlty := Lib.hid (fun k hk => (HRy.out.own.lt k hk).2)
            have BBy := Lib.hid HRy.out.below
            clear HVlt HOWN BB HWD HR
            have HVlt := HVlty
            have HOWN := HOWNy
            have BB := BBy
            clear HVlty HOWNy BBy
            obtain ⟨A1, ka1, R1, ra1, S1, sa1, hW, o0, o1, o2, _⟩ := HWDy.out
            have W1 := Lib.hid hW
            have O1 := Lib.hid (And.intro o0 (And.intro o1 o2))
            obtain ⟨c0, c1, c2, c3, c4, c5⟩ := hW.cells
            have HGlt := Lib.hid hW.1.1
            clear hW o0 o1 o2
            have WV := Lib.hid W1.out.1
            obtain ⟨op0, op1, op2, op3⟩ : y.cell? ⟨opb, 0, none⟩ = some (.int .i64 1) ∧ y.cell? ⟨opb, 1, none⟩ = some (.int .i64 0) ∧ y.cell? ⟨opb, 2, none⟩ = some (.int .i64 0) ∧ y.cell? ⟨opb, 3, none⟩ = some (.int .u64 0) := ⟨OPV.out.2.1 0 _ rfl, OPV.out.2.1 1 _ rfl, OPV.out.2.1 2 _ rfl, OPV.out.2.1 3 _ rfl⟩
            go_wp2_with fail
            (with_reducible refine (HAL A1 ka1 R1 ra1 S1 sa1 _ W1.out.gA W1.out.g0 W1.out.g1).mono ?_)
            clear HAL c0 c1 c2 c3 c4 c5 op0 op1 op2 op3
            rintro e w3 ⟨A3, ka3, R3, ra3, S3, sa3, rfl, ha, hs0, hs1, hb, hP⟩
            go_upto_region 17 with fail
            have hbx : Below w3.heap.size w3 ((w3.alloc (.cells #[.int .i64 1, .int .i64 (c : Int), .slice A3 n ka3, .int .u64 (r : Int), .slice R3 1 ra3, .slice S3 1 sa3] 51)).alloc (.cells #[.int .i64 0, .bool false, .int .i64 0, .int .u64 0, .slice none 0 0] 37)) := below_pair _ _ _
            have W3 := Lib.hid (WdAt.made (t := 1) (c := (c : Int)) (k := ka3) (r := r) (ra := ra3) (sa := sa3) w3 (.cells #[.int .i64 0, .bool false, .int .i64 0, .int .u64 0, .slice none 0 0] 37) 51 ha hs0 hs1)
            have O3 := Lib.hid (VarAt.made1 w3 (.cells #[.int .i64 1, .int .i64 (c : Int), .slice A3 n ka3, .int .u64 (r : Int), .slice R3 1 ra3, .slice S3 1 sa3] 51) #[.int .i64 0, .bool false, .int .i64 0, .int .u64 0, .slice none 0 0] 37)
            have hbn := hb.trans (hbx.mono hb.size)
            have HS3 := Lib.hid (And.intro hs0 hs1)
            have HX3 := Lib.hid hbx
            have HB3 := Lib.hid hb
            have HP3 := Lib.hid hP
            generalize (w3.alloc (.cells #[.int .i64 1, .int .i64 (c : Int), .slice A3 n ka3, .int .u64 (r : Int), .slice R3 1 ra3, .slice S3 1 sa3] 51)).alloc (.cells #[.int .i64 0, .bool false, .int .i64 0, .int .u64 0, .slice none 0 0] 37) = x3 at hbx hbn W3 O3 HX3 ⊢
            have WVn := Lib.hid (WV.out.below hbn); clear WV; have WV := WVn; clear WVn
            have HOWNn := Lib.hid (HOWN.out.later hbn); clear HOWN; have HOWN := HOWNn; clear HOWNn
            have OPVn := Lib.hid (OPV.out.below hbn); clear OPV; have OPV := OPVn; clear OPVn
            have BBn := Lib.hid (BB.out.trans (hbn.mono BB.out.size)); clear BB; have BB := BBn; clear BBn
            clear ha hs0 hs1 hb hP hbx hbn
            have hgx : b0 < x3.heap.size := WV.out.1
            have nb : ¬ (w3.heap.size = b0) := by have := HB3.out.size; have := HGlt.out; omega
            have nb' : ¬ (b0 = w3.heap.size) := fun e => nb e.symm
            have OF3 : Hid (OffW (Nt b0 b0 (.slice vA k vcap)) A3 n ∧ OffS (Nt b0 b0 (.slice vA k vcap)) x3 R3 1 ∧ OffS (Nt b0 b0 (.slice vA k vcap)) x3 S3 1) := Lib.hid (by
              obtain ⟨q0, q1, q2⟩ := HP3.out (Nt b0 b0 (.slice vA k vcap)) ⟨fun b hb => ⟨by have := HGlt.out; omega, by have := HGlt.out; omega, fun k hk => by have := HVlt.out k hk; omega⟩, O1.out.1, O1.out.2.1, O1.out.2.2⟩
              exact ⟨q0, q1.later HS3.out.1 HX3.out, q2.later HS3.out.2 HX3.out⟩)
            obtain ⟨_, ⟨e0, e1, e2, e3, e4, e5⟩, _⟩ := W3.out.1.six
            obtain ⟨zx, ⟨y0, y1, y2, y3, y4, y5⟩, f0, f1, f2, f3, f4, f5⟩ := WV.out.six
            have hob := HOB.out
            have hg0 := HG0.out
            have hbb := BB.out
            have hs3 : y.heap.size ≤ w3.heap.size := HB3.out.size
            have hszy := HRy.out.size
            have hglt := HGlt.out
            go_upto_region 18 with fail
            refine gen_w (P := fun W => Code.wp _ _ _ _ W) (fun z => RunT w b0 (b0 + 1) (c : Int) n r (.slice vA k vcap) hs G z ∧ VarAt z opb [.int .i64 1, .int .i64 0, .int .i64 0, .int .u64 0] ∧ VarAt z (w3.heap.size + 1) [.int .i64 0, .bool false, .int .i64 0, .int .u64 0, .slice none 0 0]) ⟨⟨(by repeat (first | with_reducible assumption | with_reducible refine Below.drew ?_ | with_reducible refine below_al ?_ | (with_reducible refine below_set1 (by omega) _ ?_))), by simp; omega, by omega, ⟨A3, ka3, R3, ra3, S3, sa3, ⟨VarAt.of6 (by simp; omega) (by go_simp) (by go_simp) (by go_simp) (by go_simp) (by go_simp) (by go_simp) (by go_simp) (by go_simp) (by go_simp) (by go_simp) (by go_simp) (by go_simp), W3.out.2.1.keep (Q := Nt b0 b0 (.slice vA k vcap)) (by repeat (first | with_reducible exact Keep.refl _ _ | with_reducible refine Keep.drew ?_ | with_reducible refine Keep.alloc ?_ _ | (with_reducible refine Keep.set ?_ _ _ _ (by unfold Nt; omega)))) OF3.out.1, W3.out.2.2.1.keep (Q := Nt b0 b0 (.slice vA k vcap)) (by repeat (first | with_reducible exact Keep.refl _ _ | with_reducible refine Keep.drew ?_ | with_reducible refine Keep.alloc ?_ _ | (with_reducible refine Keep.set ?_ _ _ _ (by unfold Nt; omega)))) OF3.out.2.1, W3.out.2.2.2.keep (Q := Nt b0 b0 (.slice vA k vcap)) (by repeat (first | with_reducible exact Keep.refl _ _ | with_reducible refine Keep.drew ?_ | with_reducible refine Keep.alloc ?_ _ | (with_reducible refine Keep.set ?_ _ _ _ (by unfold Nt; omega)))) OF3.out.2.2⟩, OF3.out.1, OF3.out.2.1.keep W3.out.2.2.1 (Q := Nt b0 b0 (.slice vA k vcap)) (by repeat (first | with_reducible exact Keep.refl _ _ | with_reducible refine Keep.drew ?_ | with_reducible refine Keep.alloc ?_ _ | (with_reducible refine Keep.set ?_ _ _ _ (by unfold Nt; omega)))) OF3.out.2.1, OF3.out.2.2.keep W3.out.2.2.2 (Q := Nt b0 b0 (.slice vA k vcap)) (by repeat (first | with_reducible exact Keep.refl _ _ | with_reducible refine Keep.drew ?_ | with_reducible refine Keep.alloc ?_ _ | (with_reducible refine Keep.set ?_ _ _ _ (by unfold Nt; omega)))) OF3.out.2.2, fun P h => h.elim⟩, (by repeat (first | with_reducible exact HOWN.out | (with_reducible refine OwnI.apart ?_ _ _ _ (by omega))))⟩, (by repeat (first | with_reducible exact OPV.out | (with_reducible refine VarAt.apart ?_ _ _ (by omega)))), (by repeat (first | with_reducible exact O3.out | (with_reducible refine VarAt.apart ?_ _ _ (by omega))))⟩ ?_
            rintro z ⟨hz, hzo, hz3⟩
            have HZ := Lib.hid hz
            obtain ⟨op0, op1, op2, op3⟩ : z.cell? ⟨opb, 0, none⟩ = some (.int .i64 1) ∧ z.cell? ⟨opb, 1, none⟩ = some (.int .i64 0) ∧ z.cell? ⟨opb, 2, none⟩ = some (.int .i64 0) ∧ z.cell? ⟨opb, 3, none⟩ = some (.int .u64 0) := ⟨hzo.2.1 0 _ rfl, hzo.2.1 1 _ rfl, hzo.2.1 2 _ rfl, hzo.2.1 3 _ rfl⟩
            obtain ⟨m3, ⟨p1, p2, p3, p4, p5⟩, _⟩ := hz3.five
            generalize w3.heap.size + 1 = b13 at m3 p1 p2 p3 p4 p5 ⊢
            clear hz hzo hz3 e0 e1 e2 e3 e4 e5 y0 y1 y2 y3 y4 y5 f0 f1 f2 f3 f4 f5 zx nb nb' hgx hob hg0 hbb hs3 hszy hglt
            clear W3 O3 HS3 HX3 HB3 HP3 OF3 WV OPV HOWN W1 O1 HGlt HWDy HRy
            go_upto_region 24 with fail
            obtain ⟨A9, ka9, R9, ra9, S9, sa9, hW9, _⟩ := HZ.out.run
            obtain ⟨b9, o9, rfl, hb9, hc9⟩ := hW9.2.1.2 (by have := HSZ.out; omega)
            obtain ⟨k0, k1', k2, k3, k4, k5⟩ := hW9.cells
            have w1c := hc9 1 HSZ.out
            have i4 : (1 : Int) < (n : Int) := by have := HSZ.out; omega
            have HTC := fun w => refTag_any (G 1) (hW9.2.1.1 1) w
            rw [HTG2.out] at HTC
            clear hW9 hb9 hc9
            go_wp2_with (go_at_call 17; (with_reducible refine (HTC _).mono ?_); rintro e w' ⟨rfl, rfl⟩)
            have htt := HTT.out
            go_roundw
            case rel => exact ⟨i + 1, tg, G, [], hs, by omega, by go_num, rfl, by omega, HTG2.out, HPT2.out, HZ.out⟩
            case measure => simp [intOf]; omega
          | cons a l =>
            have hG : ∀ j, G j < 18446744073709551616 := by obtain ⟨_, _, _, _, _, _, hW, _⟩ := HWD.out; exact hW.2.1.1
            have HAL := HPOP G hG a l HPT.out.free (HPT.out.le a (by simp)).2
            have ha1 := (HPT.out.le a (by simp)).1
            have HPT2 := Lib.hid HPT.out.pop
            obtain ⟨t1, ht1⟩ : ∃ t1, t1 = tg + 1 := ⟨_, rfl⟩
            have HTT := Lib.hid ht1
            have hw1 : IntKind.u64.wrap ((tg : Int) + 1) = (t1 : Int) := by rw [IntKind.wrap_u64]; omega
            have HTG2 : Hid (tagN (popG 1 G 1) = t1) := Lib.hid (by rw [tag_pop 1 G, HTG.out, ht1]; omega)
            generalize popG 1 G = G5 at *
            have da : decide ((0 : Int) < (a : Int)) = true := by rw [decide_eq_true_iff]; omega
            have da' : decide (0 < a) = true := by rw [decide_eq_true_iff]; omega
            clear hG ht1 HPOP HNONE HPUSH HFREE hcells hpush ha1
            go_upto_region 14 with fail
            refine gen_w (P := fun W => Code.wp _ _ _ _ W) (fun y => Below wr.heap.size wr y ∧ VarAt y wr.heap.size [.int .i64 1, .int .i64 0, .int .i64 0, .int .u64 0]) ⟨(by repeat (first | with_reducible assumption | with_reducible exact Below.refl _ _ | with_reducible refine Below.drew ?_ | with_reducible refine below_al ?_ | (with_reducible refine below_set1 (by omega) _ ?_))), VarAt.mk4 (by simp) (by go_simp) (by go_simp) (by go_simp) (by go_simp) (by go_simp) (by go_simp) (by go_simp) (by go_simp)⟩ ?_
            rintro y ⟨hy, hop⟩
            have HRy := Lib.hid (HR.out.later hy)
            have OPV := Lib.hid hop
            obtain ⟨opb, hopb⟩ : ∃ b, wr.heap.size = b := ⟨_, rfl⟩
            have HOB : Hid (b0 + 1 ≤ opb) := Lib.hid (by rw [← hopb]; exact HSZR.out)
            rw [hopb] at OPV ⊢
            clear hy hop hopb
            have HWDy := Lib.hid HRy.out.run
            have HOWNy := Lib.hid HRy.out.own
            have HVlty := Lib.hid (fun k hk => (HRy.out.own.lt k hk).2)
            have BBy := Lib.hid HRy.out.below
            clear HVlt HOWN BB HWD HR
            have HVlt := HVlty
            have HOWN := HOWNy
            have BB := BBy
            clear HVlty HOWNy BBy
            obtain ⟨A1, ka1, R1, ra1, S1, sa1, hW, o0, o1, o2, _⟩ := HWDy.out
            have W1 := Lib.hid hW
            have O1 := Lib.hid (And.intro o0 (And.intro o1 o2))
            obtain ⟨c0, c1, c2, c3, c4, c5⟩ := hW.cells
            have HGlt := Lib.hid hW.1.1
            clear hW o0 o1 o2
            have WV := Lib.hid W1.out.1
            obtain ⟨op0, op1, op2, op3⟩ : y.cell? ⟨opb, 0, none⟩ = some (.int .i64 1) ∧ y.cell? ⟨opb, 1, none⟩ = some (.int .i64 0) ∧ y.cell? ⟨opb, 2, none⟩ = some (.int .i64 0) ∧ y.cell? ⟨opb, 3, none⟩ = some (.int .u64 0) := ⟨OPV.out.2.1 0 _ rfl, OPV.out.2.1 1 _ rfl, OPV.out.2.1 2 _ rfl, OPV.out.2.1 3 _ rfl⟩
            go_wp2_with fail
            (with_reducible refine (HAL A1 ka1 R1 ra1 S1 sa1 _ W1.out.gA W1.out.g0 W1.out.g1).mono ?_)
            clear HAL c0 c1 c2 c3 c4 c5 op0 op1 op2 op3
            rintro e w3 ⟨A3, ka3, R3, ra3, S3, sa3, rfl, ha, hs0, hs1, hb, hP⟩
            go_upto_region 17 with fail
            have hbx : Below w3.heap.size w3 ((w3.alloc (.cells #[.int .i64 1, .int .i64 (c : Int), .slice A3 n ka3, .int .u64 (r : Int), .slice R3 1 ra3, .slice S3 1 sa3] 51)).alloc (.cells #[.int .i64 0, .bool false, .int .i64 (a : Int), .int .u64 0, .slice none 0 0] 37)) := below_pair _ _ _
            have W3 := Lib.hid (WdAt.made (t := 1) (c := (c : Int)) (k := ka3) (r := r) (ra := ra3) (sa := sa3) w3 (.cells #[.int .i64 0, .bool false, .int .i64 (a : Int), .int .u64 0, .slice none 0 0] 37) 51 ha hs0 hs1)
            have O3 := Lib.hid (VarAt.made1 w3 (.cells #[.int .i64 1, .int .i64 (c : Int), .slice A3 n ka3, .int .u64 (r : Int), .slice R3 1 ra3, .slice S3 1 sa3] 51) #[.int .i64 0, .bool false, .int .i64 (a : Int), .int .u64 0, .slice none 0 0] 37)
            have hbn := hb.trans (hbx.mono hb.size)
            have HS3 := Lib.hid (And.intro hs0 hs1)
            have HX3 := Lib.hid hbx
            have HB3 := Lib.hid hb
            have HP3 := Lib.hid hP
            generalize (w3.alloc (.cells #[.int .i64 1, .int .i64 (c : Int), .slice A3 n ka3, .int .u64 (r : Int), .slice R3 1 ra3, .slice S3 1 sa3] 51)).alloc (.cells #[.int .i64 0, .bool false, .int .i64 (a : Int), .int .u64 0, .slice none 0 0] 37) = x3 at hbx hbn W3 O3 HX3 ⊢
            have WVn := Lib.hid (WV.out.below hbn); clear WV; have WV := WVn; clear WVn
            have HOWNn := Lib.hid (HOWN.out.later hbn); clear HOWN; have HOWN := HOWNn; clear HOWNn
            have OPVn := Lib.hid (OPV.out.below hbn); clear OPV; have OPV := OPVn; clear OPVn
            have BBn := Lib.hid (BB.out.trans (hbn.mono BB.out.size)); clear BB; have BB := BBn; clear BBn
            clear ha hs0 hs1 hb hP hbx hbn
            have hgx : b0 < x3.heap.size := WV.out.1
            have nb : ¬ (w3.heap.size = b0) := by have := HB3.out.size; have := HGlt.out; omega
            have nb' : ¬ (b0 = w3.heap.size) := fun e => nb e.symm
            have OF3 : Hid (OffW (Nt b0 b0 (.slice vA k vcap)) A3 n ∧ OffS (Nt b0 b0 (.slice vA k vcap)) x3 R3 1 ∧ OffS (Nt b0 b0 (.slice vA k vcap)) x3 S3 1) := Lib.hid (by
              obtain ⟨q0, q1, q2⟩ := HP3.out (Nt b0 b0 (.slice vA k vcap)) ⟨fun b hb => ⟨by have := HGlt.out; omega, by have := HGlt.out; omega, fun k hk => by have := HVlt.out k hk; omega⟩, O1.out.1, O1.out.2.1, O1.out.2.2⟩
              exact ⟨q0, q1.later HS3.out.1 HX3.out, q2.later HS3.out.2 HX3.out⟩)
            obtain ⟨_, ⟨e0, e1, e2, e3, e4, e5⟩, _⟩ := W3.out.1.six
            obtain ⟨zx, ⟨y0, y1, y2, y3, y4, y5⟩, f0, f1, f2, f3, f4, f5⟩ := WV.out.six
            have hob := HOB.out
            have hg0 := HG0.out
            have hbb := BB.out
            have hs3 : y.heap.size ≤ w3.heap.size := HB3.out.size
            have hszy := HRy.out.size
            have hglt := HGlt.out
            go_upto_region 18 with fail
            refine gen_w (P := fun W => Code.wp _ _ _ _ W) (fun z => RunT w b0 (b0 + 1) (c : Int) n r (.slice vA k vcap) hs G5 z ∧ VarAt z opb [.int .i64 1, .int .i64 0, .int .i64 0, .int .u64 0] ∧ VarAt z (w3.heap.size + 1) [.int .i64 0, .bool false, .int .i64 (a : Int), .int .u64 0, .slice none 0 0]) ⟨⟨(by repeat (first | with_reducible assumption | with_reducible refine Below.drew ?_ | with_reducible refine below_al ?_ | (with_reducible refine below_set1 (by omega) _ ?_))), by simp; omega, by omega, ⟨A3, ka3, R3, ra3, S3, sa3, ⟨VarAt.of6 (by simp; omega) (by go_simp) (by go_simp) (by go_simp) (by go_simp) (by go_simp) (by go_simp) (by go_simp) (by go_simp) (by go_simp) (by go_simp) (by go_simp) (by go_simp), W3.out.2.1.keep (Q := Nt b0 b0 (.slice vA k vcap)) (by repeat (first | with_reducible exact Keep.refl _ _ | with_reducible refine Keep.drew ?_ | with_reducible refine Keep.alloc ?_ _ | (with_reducible refine Keep.set ?_ _ _ _ (by unfold Nt; omega)))) OF3.out.1, W3.out.2.2.1.keep (Q := Nt b0 b0 (.slice vA k vcap)) (by repeat (first | with_reducible exact Keep.refl _ _ | with_reducible refine Keep.drew ?_ | with_reducible refine Keep.alloc ?_ _ | (with_reducible refine Keep.set ?_ _ _ _ (by unfold Nt; omega)))) OF3.out.2.1, W3.out.2.2.2.keep (Q := Nt b0 b0 (.slice vA k vcap)) (by repeat (first | with_reducible exact Keep.refl _ _ | with_reducible refine Keep.drew ?_ | with_reducible refine Keep.alloc ?_ _ | (with_reducible refine Keep.set ?_ _ _ _ (by unfold Nt; omega)))) OF3.out.2.2⟩, OF3.out.1, OF3.out.2.1.keep W3.out.2.2.1 (Q := Nt b0 b0 (.slice vA k vcap)) (by repeat (first | with_reducible exact Keep.refl _ _ | with_reducible refine Keep.drew ?_ | with_reducible refine Keep.alloc ?_ _ | (with_reducible refine Keep.set ?_ _ _ _ (by unfold Nt; omega)))) OF3.out.2.1, OF3.out.2.2.keep W3.out.2.2.2 (Q := Nt b0 b0 (.slice vA k vcap)) (by repeat (first | with_reducible exact Keep.refl _ _ | with_reducible refine Keep.drew ?_ | with_reducible refine Keep.alloc ?_ _ | (with_reducible refine Keep.set ?_ _ _ _ (by unfold Nt; omega)))) OF3.out.2.2, fun P h => h.elim⟩, (by repeat (first | with_reducible exact HOWN.out | (with_reducible refine OwnI.apart ?_ _ _ _ (by omega))))⟩, (by repeat (first | with_reducible exact OPV.out | (with_reducible refine VarAt.apart ?_ _ _ (by omega)))), (by repeat (first | with_reducible exact O3.out | (with_reducible refine VarAt.apart ?_ _ _ (by omega))))⟩ ?_
            rintro z ⟨hz, hzo, hz3⟩
            have HZ := Lib.hid hz
            obtain ⟨op0, op1, op2, op3⟩ : z.cell? ⟨opb, 0, none⟩ = some (.int .i64 1) ∧ z.cell? ⟨opb, 1, none⟩ = some (.int .i64 0) ∧ z.cell? ⟨opb, 2, none⟩ = some (.int .i64 0) ∧ z.cell? ⟨opb, 3, none⟩ = some (.int .u64 0) := ⟨hzo.2.1 0 _ rfl, hzo.2.1 1 _ rfl, hzo.2.1 2 _ rfl, hzo.2.1 3 _ rfl⟩
            obtain ⟨m3, ⟨p1, p2, p3, p4, p5⟩, _⟩ := hz3.five
            generalize w3.heap.size + 1 = b13 at m3 p1 p2 p3 p4 p5 ⊢
            clear hz hzo hz3 e0 e1 e2 e3 e4 e5 y0 y1 y2 y3 y4 y5 f0 f1 f2 f3 f4 f5 zx nb nb' hgx hob hg0 hbb hs3 hszy hglt
            clear W3 O3 HS3 HX3 HB3 HP3 OF3 WV OPV HOWN W1 O1 HGlt HWDy HRy
            go_upto_region 22 with fail
            have HM9 : Hid (hs.length ≤ 900000) := Lib.hid (by have := HKL.out; omega)
            have HOA : Hid (∀ o, OwnI (z.alloc o) (b0 + 1) (.slice vA k vcap) hs) := Lib.hid (fun o => HZ.out.own.later (al_below z o))
            have HZ1 : Hid (∀ o, b0 + 1 ≤ (z.alloc o).heap.size) := Lib.hid (fun o => Nat.le_trans HZ.out.size (al_below z o).size)
            have HNX : Hid (∀ o v' w', OwnI w' (b0 + 1) v' (hs ++ [a]) → (z.alloc o).grownBy w' (Value.slice vA k vcap).ownBlock → (v'.ownBlock = (Value.slice vA k vcap).ownBlock ∨ v'.ownBlock = some (z.alloc o).heap.size) → RunT w b0 (b0 + 1) (c : Int) n r v' (hs ++ [a]) G5 w') := Lib.hid (fun o v' w' h1 h2 h3 => (HZ.out.later (al_below z o)).next h1 h2 h3)
            clear HZ
            go_upto_region 24 with (at_builtin; (refine wpList_appendI (by rfl) (.tmp 73) (.tmp 76) (by rfl) (b0 + 1) (.slice vA k vcap) hs (by rfl) (HOA.out _) z.heap.size 1 a (by rfl) (by go_simp) HM9.out (HZ1.out _) ?_); (intro v9 w9 hown9 hg9 hv9; have HZ := Lib.hid (HNX.out _ _ _ hown9 hg9 hv9); clear hown9 hg9 hv9 HNX HOA HZ1))
            obtain ⟨A9, ka9, R9, ra9, S9, sa9, hW9, _⟩ := HZ.out.run
            obtain ⟨b9, o9, rfl, hb9, hc9⟩ := hW9.2.1.2 (by have := HSZ.out; omega)
            obtain ⟨k0, k1', k2, k3, k4, k5⟩ := hW9.cells
            have w1c := hc9 1 HSZ.out
            have i4 : (1 : Int) < (n : Int) := by have := HSZ.out; omega
            have HTC := fun w => refTag_any (G5 1) (hW9.2.1.1 1) w
            rw [HTG2.out] at HTC
            clear hW9 hb9 hc9
            go_wp2_with (go_at_call 17; (with_reducible refine (HTC _).mono ?_); rintro e w' ⟨rfl, rfl⟩)
            have htt := HTT.out
            go_roundw
            case rel => exact ⟨i + 1, t1, G5, l, (hs ++ [a]), by omega, by go_num, rfl, by omega, HTG2.out, HPT2.out, HZ.out⟩
            case measure => simp [intOf]; omega


    · obtain rfl : i = ln := by omega
      have d1 : decide ((i : Int) < (i : Int)) = false := by rw [decide_eq_false_iff_not]; omega
      have d1' : decide (i < i) = false := by rw [decide_eq_false_iff_not]; omega
      obtain ⟨A1, ka1, R1, ra1, S1, sa1, hW, o0, o1, o2, _⟩ := HWD.out
      have W1 := Lib.hid hW
      have O1 := Lib.hid (And.intro o0 (And.intro o1 o2))
      obtain ⟨c0, c1, c2, c3, c4, c5⟩ := hW.cells
      have HGlt := Lib.hid hW.1.1
      clear hW o0 o1 o2
      have hle := HPT.out.le
      have hlen := HPT.out.len
      have HFR := HFREE A1 ka1 G l HPT.out.free (fun a ha => (hle a (List.mem_append_left _ ha)).2) (by omega)
      have dl : ((l.length : Int) == (c : Int) - (hs.length : Int)) = true := by rw [beq_iff_eq]; omega
      have hl9 : l.length ≤ 9 := by omega
      clear hle hlen HPOP HNONE HPUSH HFREE hcells
      go_wp2_with fail
      (with_reducible refine (HFR _ W1.out.gA).mono ?_)
      clear HFR c0 c1 c2 c3 c4 c5
      rintro e w2 ⟨v13, rfl, hown, hb⟩
      obtain ⟨a13, cap13, rfl, _, _, _⟩ := hown.form
      have BBn := Lib.hid (BB.out.trans (hb.mono BB.out.size)); clear BB; have BB := BBn; clear BBn
      clear hown hb
      go_wp2_with fail
      go_ret
      exact ⟨rfl, BB.out⟩

section
set_option maxRecDepth 100000
set_option maxHeartbeats 2000000
variable {H : Type} {enc : TypeId × Value → H} {w : World}
theorem open_a {v : Value} {d : DataW H} {ps : List MemPlace} {base : Nat} (hval : Value.okWide Try.prog w .any base 5 v) (h : DataW.Trod enc Try.prog w 0 (fun _ => true) true 5 v d ps) (hs : Sized Try.prog 5 d) (hlt : ∀ z ∈ ps, z.block < w.heap.size) :
    ∃ (a : Nat), v = .int .u8 (a : Int) ∧ a < 256 := by
  obtain ⟨a0, rfl⟩ := okWide_int Try.underlying5 hval
  obtain ⟨fuel, hf0⟩ := h
  have hf : DataW.trod enc Try.prog w 0 (fun _ => true) true fuel 5 [.int .u8 a0] = some (d, ps) := hf0
  obtain ⟨a, e0, ha⟩ := leaf_u8 Try.underlying5 hf
  cases e0
  exact ⟨_, rfl, ha⟩
theorem open_b {v : Value} {d : DataW H} {ps : List MemPlace} {base : Nat} (hval : Value.okWide Try.prog w .any base 30 v) (h : DataW.Trod enc Try.prog w 0 (fun _ => true) true 30 v d ps) (hs : Sized Try.prog 30 d) (hlt : ∀ z ∈ ps, z.block < w.heap.size) :
    ∃ (bA : Option Addr) (bL bC : Nat) (bx : List Nat), v = .slice bA bL bC ∧ (bL ≤ bC ∧ bL ≤ 140737488355328 ∧ AtB w bA bL bx) := by
  obtain ⟨a0, len, cap, rfl⟩ := okWide_slice Try.underlying30 hval
  obtain ⟨fuel, hf0⟩ := h
  have hf : DataW.trod enc Try.prog w 0 (fun _ => true) true fuel 30 [.slice a0 len cap] = some (d, ps) := hf0
  obtain ⟨bA, bL, bC, bx, e0, hb⟩ := leaf_bytes hf hs hlt
  cases e0
  exact ⟨_, _, _, _, rfl, hb⟩
end

set_option maxRecDepth 100000 in
set_option maxHeartbeats 8000000 in
theorem lifted (os : Os) (started : os.Started) (H : Type) (enc : TypeId × Value → H) :
    ReturnsInHanded {} Try.checked os 5 .any (Rows.poolTagSpec.pre6 enc Try.prog Try.f5 Rows.poolTagRow.domain false) (Rows.poolTagSpec.post enc Try.prog Try.f5 false true false false) := by
  refine law_lifted (C := Try.checked) own started (by kernel_rfl) Try.func5
    (ChangeSpec.witness6 (enc := enc) (C := Try.checked) false ⟨#[], #[.int .u8 0, .slice none 0 0], []⟩ 8 (by kernel_rfl) (by kernel_rfl) (by kernel_rfl) (by kernel_rfl))
    (by kernel_rfl) (by kernel_rfl) Try.underlying4 rfl (by kernel_rfl) ?_
  intro W base args ds before hval hA hwt hlt
  have hA' : DataW.TrodAll enc Try.prog W 0 (fun _ => true) true Try.f5.params.toList args.toList ds before := hA
  have hval' : ∀ (j : Nat) t v, Try.f5.params[j]? = some t → args[j]? = some v → Value.okWide Try.prog W .any base t v := hval
  have hwt' : (DataW.weightsEach Try.prog Try.f5.params.toList ds).all (· ≤ reachBytes) = true := hwt
  rw [Try.params5] at hA' hval' hwt'
  obtain ⟨v0, vs0, d0, ds0, p0, q0, hargs, rfl, rfl, k0, r0⟩ := trodAll_cons hA'
  obtain ⟨v1, vs1, d1, ds1, p1, q1, rfl, rfl, rfl, k1, r1⟩ := trodAll_cons r0
  obtain ⟨rfl, rfl, rfl⟩ := trodAll_nil r1
  obtain rfl : args = #[v0, v1] := by cases args; simp_all
  obtain ⟨a, rfl, ha⟩ := open_a (hval' 0 5 v0 rfl rfl) k0 (sized_of hwt' (j := 0) (t := 5) rfl rfl) (fun x hx => hlt x (by simp [hx]))
  obtain ⟨bA, bL, bC, bx, rfl, hb⟩ := open_b (hval' 1 30 v1 rfl rfl) k1 (sized_of hwt' (j := 1) (t := 30) rfl rfl) (fun x hx => hlt x (by simp [hx]))
  refine ⟨rfl, ?_⟩
  obtain ⟨hbc, hb9, hbat⟩ := hb
  by_cases hln : bL ≤ 40
  · exact walk a ha bA bL bC bx hln W (Lib.hid hbat)
  · exact walkA a ha bA bL bC bx (by omega) W (Lib.hid hbat)

theorem over : Rows.poolTagRow.holds Try.pinned (OpenSpec.ofChange Rows.poolTagSpec) :=
  OpenClaim.holds_of_wide 5 Try.f5 rfl rfl rfl rfl rfl rfl rfl ⟨rfl, rfl, rfl, rfl, rfl⟩ rfl rfl rfl rfl rfl (by kernel_rfl) Try.func5 (by kernel_rfl)
    (of_decide_eq_true (by kernel_rfl)) (by unfold Func.isWrapper; first | (rw [if_pos (by decide +kernel)]; kernel_rfl) | (rw [if_neg (by decide +kernel)]; exact ⟨rfl, rfl⟩))
    (fun os started H enc _ => lifted os started H enc)

/-- The statement. -/
theorem proved : Rows.PoolTagSaid :=
  over
#print axioms proved
end Go.Proofs.Ytadknblgfcgkpaa.poolTag
