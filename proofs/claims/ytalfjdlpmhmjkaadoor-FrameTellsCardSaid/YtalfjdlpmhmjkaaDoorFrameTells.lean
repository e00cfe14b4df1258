/-
  FrameTells: for every two rows of bytes (of up to 2000), their frame, and what they are split into, are as the document says. No condition but that the table of the program's text lies where it is laid.
-/
import Derived.Test.YtalfjdlpmhmjkaaDoorFrmDoor
import Derived.Test.YtalfjdlpmhmjkaaDoorCards
import Derived.Test.YtalfjdlpmhmjkaaDoorTie
namespace Go.Proofs.YtalfjdlpmhmjkaaDoor.frameTells
open Go.ChangeShapes Go.WideShapes Go.ChangeAt Go.RowKit
set_option linter.unusedVariables false

theorem walkLong (A B : Option Addr) (len1 cap1 len2 cap2 : Nat) (h : 2000 < len1 ∨ 2000 < len2) (w : World) (hT : Hid (Tab w)) :
    Calls Tryd.prog 3 #[.slice A len1 cap1, .slice B len2 cap2] w fun e w' => e = .returned (.bool true) ∧ Below w.heap.size w w' := by
  by_cases h1 : 2000 < len1
  · have d1 : decide ((2000 : Int) < (len1 : Int)) = true := by rw [decide_eq_true_iff]; omega
    clear h
    go_enter Tryd.func3, Tryd.ntmps3
    go_wp2_with fail
    refine (shown_below _ hT).mono ?_
    rintro e w1 ⟨rfl, hb⟩
    have HB := Lib.hid hb
    clear hb
    go_wp2_with fail
    go_ret
    exact ⟨rfl, HB.out⟩
  · have d1 : decide ((2000 : Int) < (len1 : Int)) = false := by rw [decide_eq_false_iff_not]; omega
    have d2 : decide ((2000 : Int) < (len2 : Int)) = true := by rw [decide_eq_true_iff]; omega
    clear h
    go_enter Tryd.func3, Tryd.ntmps3
    go_wp2_with fail
    refine (shown_below _ hT).mono ?_
    rintro e w1 ⟨rfl, hb⟩
    have HB := Lib.hid hb
    clear hb
    go_wp2_with fail
    go_ret
    exact ⟨rfl, HB.out⟩

set_option maxRecDepth 100000 in
set_option maxHeartbeats 2000000 in
theorem walkShort (A B : Option Addr) (len1 cap1 len2 cap2 : Nat) (xs ys : List Nat) (l1 : len1 ≤ 2000) (l2 : len2 ≤ 2000) (hc : len2 ≤ cap2) (w : World) (hT : Hid (Tab w)) (hA : Hid (AtB w A len1 xs)) (hB : Hid (AtB w B len2 ys)) :
    Calls Tryd.prog 3 #[.slice A len1 cap1, .slice B len2 cap2] w fun e w' => e = .returned (.bool true) ∧ Below w.heap.size w w' := by
  have d1 : decide ((2000 : Int) < (len1 : Int)) = false := by rw [decide_eq_false_iff_not]; omega
  have d2 : decide ((2000 : Int) < (len2 : Int)) = false := by rw [decide_eq_false_iff_not]; omega
  go_enter Tryd.func3, Tryd.ntmps3
  go_wp2_with fail
  refine (shown_below _ hT).mono ?_
  rintro e w1 ⟨rfl, hb⟩
  have HB1 := Lib.hid hb
  have HA1 := Lib.hid (AtB.later hA hb)
  have HY1 := Lib.hid (AtB.later hB hb)
  have HT1 := Tab.later hT hb
  clear hb hA hB hT
  go_wp2_with fail
  refine (put_any A len1 cap1 xs (by omega) w1 HT1 HA1).mono ?_
  rintro e w2 ⟨A2, n2, c2, E2, z2, rfl, hE2, hz2, hat2, hb2⟩
  have HB2 := Lib.hid (HB1.out.trans (hb2.mono HB1.out.size))
  have HA2 := Lib.hid (AtB.later HA1 hb2)
  have HY2 := Lib.hid (AtB.later HY1 hb2)
  have HT2 := Tab.later HT1 hb2
  have HX2 := Lib.hid hat2
  have HE2 := Lib.hid hE2
  have HZ2 := Lib.hid hz2
  clear hb2 hat2 HB1 HA1 HY1 HT1 hE2 hz2
  go_wp2_with fail
  refine (refPut_any A len1 cap1 xs (by omega) w2 HA2).mono ?_
  rintro e w3 ⟨A3, n3, c3, E3, z3, rfl, hE3, hz3, hat3, hb3⟩
  have HB3 := Lib.hid (HB2.out.trans (hb3.mono HB2.out.size))
  have HY3 := Lib.hid (AtB.later HY2 hb3)
  have HX3 := Lib.hid (AtB.later HX2 hb3)
  have HT3 := Tab.later HT2 hb3
  have HX3' := Lib.hid hat3
  obtain rfl : E3 = E2 := by rw [hE3, HE2.out]
  obtain rfl : z3 = z2 := by rw [hz3, HZ2.out]
  clear hb3 hat3 HB2 HY2 HX2 HT2 hE3 hz3 HA2 HE2 HZ2
  go_wp2_with fail
  refine (split_at B len2 cap2 ys hc (by omega) w3 HT3 HY3).mono ?_
  rintro e w4 ⟨v4, rfl, hO4, hb4⟩
  have hcnt := count_le HY3.out.2.1
  have hcl := HY3.out.1
  obtain ⟨A4, k4, rfl, _, hat4⟩ := hO4.at_ (by omega)
  have HB4 := Lib.hid (HB3.out.trans (hb4.mono HB3.out.size))
  have HY4 := Lib.hid (AtB.later HY3 hb4)
  have HX4 := Lib.hid (AtB.later HX3 hb4)
  have HX4' := Lib.hid (AtB.later HX3' hb4)
  have HR4 := Lib.hid hat4
  clear hb4 hat4 hO4 HB3 HY3 HX3 HX3' HT3
  go_wp2_with fail
  refine (refSplit_at B len2 cap2 ys hc (by omega) w4 HY4).mono ?_
  rintro e w5 ⟨v5, rfl, hO5, hb5⟩
  obtain ⟨A5, k5, rfl, _, hat5⟩ := hO5.at_ (by omega)
  have HB5 := Lib.hid (HB4.out.trans (hb5.mono HB4.out.size))
  have HR5 := Lib.hid (AtRows.later HR4.out hb5)
  have HR5' := Lib.hid hat5
  have s1 := run_str (AtB.later HX4 hb5) c2
  have s2 := run_str (AtB.later HX4' hb5) c3
  generalize strN z3 = S at *
  generalize splitN ys = ll at *
  generalize usedN ll = u at *
  clear hb5 hat5 hO5 HB4 HY4 HX4 HX4' HR4 hcnt hcl
  go_wp2_with fail
  refine (rows_at A4 A5 _ k4 k5 ll w5 HR5.out HR5'.out).mono ?_
  rintro e w6 ⟨rfl, m, rfl⟩
  go_wp2_with fail
  go_ret
  exact ⟨rfl, below_quiet HB5.out m⟩

set_option maxRecDepth 100000 in
theorem lifted (os : Os) (started : os.Started) (H : Type) (enc : TypeId × Value → H) :
    ReturnsInHanded {} Tryd.checked os 3 .any (fun w args => (Rows.frameTellsSpec.pre enc Tryd.prog Tryd.f3 [] false w args ∧ laidMetH Tryd.prog laidHalf w) ∧ sizedMet enc Tryd.prog Tryd.f3 (OpenSpec.ofChange Rows.frameTellsSpec) false w args)
      (Rows.frameTellsSpec.post enc Tryd.prog Tryd.f3 false true false false) := by
  refine law_lifted_laid (C := Tryd.checked) (X := fun w _ => laidMetH Tryd.prog laidHalf w) (fun _ _ _ hh h => h.of_heap hh) own started (by kernel_rfl) Tryd.func3
    (ChangeSpec.witness_shaped (enc := enc) (C := Tryd.checked) (os := os) (X := fun w _ => laidMetH Tryd.prog laidHalf w) false (World.doorLaid Tryd.prog 400 os) #[.slice none 0 0, .slice none 0 0] 8 rfl (World.shaped_of_RefB (by kernel_rfl) (by kernel_rfl)) (by kernel_rfl) (by kernel_rfl) (by kernel_rfl) (door_met os _))
    (by kernel_rfl) (by kernel_rfl) Tryd.underlying4 rfl (by kernel_rfl) ?_
  intro W base args ds before hval hA _ hlt hL
  have hT := Lib.hid (tab_of_laid hL)
  have hA' : DataW.TrodAll enc Tryd.prog W 0 (fun _ => true) true Tryd.f3.params.toList args.toList ds before := hA
  have hval' : ∀ (j : Nat) t v, Tryd.f3.params[j]? = some t → args[j]? = some v → Value.okWide Tryd.prog W .any base t v := hval
  rw [Tryd.params3] at hA' hval'
  obtain ⟨v0, vs0, d0, ds0, p0, q0, hargs, rfl, rfl, h0, r0⟩ := trodAll_cons hA'
  obtain ⟨v1, vs1, d1, ds1, p1, q1, rfl, rfl, rfl, h1, r1⟩ := trodAll_cons r0
  obtain ⟨rfl, rfl, rfl⟩ := trodAll_nil r1
  obtain rfl : args = #[v0, v1] := by cases args; simp_all
  obtain ⟨Axs, lenxs, capxs, xs, rfl, hatxs⟩ := open_at (hval' 0 22 v0 rfl rfl) h0 (fun x hx => hlt x (by simp [hx]))
  obtain ⟨Ays, lenys, capys, ys, rfl, hcys, hatys⟩ := open_at2 (hval' 1 22 v1 rfl rfl) h1 (fun x hx => hlt x (by simp [hx]))
  refine ⟨rfl, ?_⟩
  by_cases h : 2000 < lenxs ∨ 2000 < lenys
  · exact walkLong Axs Ays lenxs capxs lenys capys h W hT
  · exact walkShort Axs Ays lenxs capxs lenys capys xs ys (by omega) (by omega) hcys W hT (Lib.hid hatxs) (Lib.hid hatys)

theorem over : Rows.frameTellsRow.holds Tryd.pinned (OpenSpec.ofChange Rows.frameTellsSpec) :=
  OpenClaim.holds_of_wide 3 Tryd.f3 rfl rfl rfl rfl rfl rfl rfl ⟨rfl, rfl, rfl, rfl, rfl⟩ rfl rfl rfl rfl rfl (by kernel_rfl) Tryd.func3 (by kernel_rfl)
    (of_decide_eq_true (by kernel_rfl)) (by unfold Func.isWrapper; first | (rw [if_pos (by decide +kernel)]; kernel_rfl) | (rw [if_neg (by decide +kernel)]; exact ⟨rfl, rfl⟩))
    (fun os started H enc _ => lifted os started H enc)

/-- The statement: the card, tied to the program's text. -/
theorem proved : Rows.FrameTellsCardSaid :=
  Claim7.holds_tied_plain_at .later [] [.data] true (true, "9b6314bd2c376ad85478bd446ba648b9fdee3dca184135e774d1516cf3558f15") false
    over (fun _ h => by cases h) (by kernel_rfl) (fun _ h => by cases h) frameTells_row_tie rfl ⟨rfl, rfl⟩ (by kernel_rfl) rfl
    (fun f fn hf hfn => by
      obtain rfl : f = 3 := Option.some.inj ((show Tryd.prog.funcNamed "weald/wealdlaw04.FrameTells" = some 3 by kernel_rfl).symm.trans hf) |>.symm
      obtain rfl : fn = Tryd.f3 := (Option.some.inj (Tryd.func3.symm.trans hfn)).symm
      exact ⟨by kernel_rfl, fun j t ht => by
        rw [Tryd.params3] at ht
        have hm : t ∈ [22, 22] := by simpa using Array.mem_of_getElem? ht
        have hall : ([22, 22].all fun u => !Tryd.prog.wantsStandIn u) = true := by kernel_rfl
        exact (show Tryd.prog.wantsStandIn t = false by simpa using List.all_eq_true.1 hall t hm)⟩)
    (by kernel_rfl)
#print axioms proved
end Go.Proofs.YtalfjdlpmhmjkaaDoor.frameTells
