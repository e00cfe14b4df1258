/-
  FrameJoins: for every two rows of bytes (of up to 1000): what the first is split into, as far as it was used, and the second behind it, is split into both, and used up. No condition but that the table of the program's text lies where it is laid.
-/
import Derived.Test.YtalfjdlpmhmjkaaDoorFrmDoor
import Derived.Test.YtalfjdlpmhmjkaaDoorCopies
import Derived.Test.YtalfjdlpmhmjkaaDoorCards
import Derived.Test.YtalfjdlpmhmjkaaDoorTie
namespace Go.Proofs.YtalfjdlpmhmjkaaDoor.frameJoins
open Go.ChangeShapes Go.WideShapes Go.ChangeAt Go.RowKit
set_option linter.unusedVariables false

theorem walkLongA (A B : Option Addr) (len1 cap1 len2 cap2 : Nat) (h : 1000 < len1) (w : World) (hT : Hid (Tab w)) :
    Calls Tryd.prog 6 #[.slice A len1 cap1, .slice B len2 cap2] w fun e w' => e = .returned (.bool true) ∧ Below w.heap.size w w' := by
  have d1 : decide ((1000 : Int) < (len1 : Int)) = true := by rw [decide_eq_true_iff]; omega
  go_enter Tryd.func6, Tryd.ntmps6
  go_wp2_with fail
  refine (shown_below _ hT).mono ?_
  rintro e w1 ⟨rfl, hb⟩
  have HB := Lib.hid hb
  clear hb
  go_wp2_with fail
  go_ret
  exact ⟨rfl, HB.out⟩

theorem walkLongB (A B : Option Addr) (len1 cap1 len2 cap2 : Nat) (h1 : len1 ≤ 1000) (h : 1000 < len2) (w : World) (hT : Hid (Tab w)) :
    Calls Tryd.prog 6 #[.slice A len1 cap1, .slice B len2 cap2] w fun e w' => e = .returned (.bool true) ∧ Below w.heap.size w w' := by
  have d1 : decide ((1000 : Int) < (len1 : Int)) = false := by rw [decide_eq_false_iff_not]; omega
  have d2 : decide ((1000 : Int) < (len2 : Int)) = true := by rw [decide_eq_true_iff]; omega
  go_enter Tryd.func6, Tryd.ntmps6
  go_wp2_with fail
  refine (shown_below _ hT).mono ?_
  rintro e w1 ⟨rfl, hb⟩
  have HB := Lib.hid hb
  clear hb
  go_wp2_with fail
  go_ret
  exact ⟨rfl, HB.out⟩

set_option maxRecDepth 100000 in
set_option maxHeartbeats 4000000 in
theorem walkShort (A B : Option Addr) (len1 cap1 len2 cap2 : Nat) (xs ys : List Nat) (l1 : len1 ≤ 1000) (l2 : len2 ≤ 1000) (hc1 : len1 ≤ cap1) (hc2 : len2 ≤ cap2) (w : World) (hT : Hid (Tab w)) (hA : Hid (AtB w A len1 xs)) (hB : Hid (AtB w B len2 ys)) :
    Calls Tryd.prog 6 #[.slice A len1 cap1, .slice B len2 cap2] w fun e w' => e = .returned (.bool true) ∧ Below w.heap.size w w' := by
  have d1 : decide ((1000 : Int) < (len1 : Int)) = false := by rw [decide_eq_false_iff_not]; omega
  have d2 : decide ((1000 : Int) < (len2 : Int)) = false := by rw [decide_eq_false_iff_not]; omega
  have hu1 : usedN (splitN xs) ≤ len1 := by rw [← hA.out.1]; exact used_le hA.out.2.1
  have hu2 : usedN (splitN ys) ≤ len2 := by rw [← hB.out.1]; exact used_le hB.out.2.1
  have hn1 : (splitN xs).length ≤ len1 := by rw [← hA.out.1]; exact count_le hA.out.2.1
  have hn2 : (splitN ys).length ≤ len2 := by rw [← hB.out.1]; exact count_le hB.out.2.1
  have HJ : Hid (splitN (xs.take (usedN (splitN xs)) ++ ys) = splitN xs ++ splitN ys) := Lib.hid (split_joins ys hA.out.2.1)
  have HU : Hid (usedN (splitN xs ++ splitN ys) = usedN (splitN xs) + usedN (splitN ys)) := Lib.hid (used_append _ _)
  go_enter Tryd.func6, Tryd.ntmps6
  go_wp2_with fail
  refine (shown_below _ hT).mono ?_
  rintro e w1 ⟨rfl, hb⟩
  have HB1 := Lib.hid hb
  have HA1 := Lib.hid (AtB.later hA hb)
  have HY1 := Lib.hid (AtB.later hB hb)
  have HT1 := Tab.later hT hb
  clear hb hA hB hT
  go_wp2_with fail
  refine (split_at A len1 cap1 xs hc1 (by omega) w1 HT1 HA1).mono ?_
  rintro e w2 ⟨v2, rfl, hO2, hb2⟩
  obtain ⟨A2, k2, rfl, _, hat2⟩ := hO2.at_ (by omega)
  have HR2 := Lib.hid hat2
  have HB2 := Lib.hid (HB1.out.trans (hb2.mono HB1.out.size))
  have HA2 := Lib.hid (AtB.later HA1 hb2)
  have HY2 := Lib.hid (AtB.later HY1 hb2)
  have HT2 := Tab.later HT1 hb2
  clear hb2 hO2 hat2 HB1 HA1 HY1 HT1
  generalize splitN xs = l1s at *
  generalize usedN l1s = u1 at *
  go_wp2_with fail
  refine (split_at B len2 cap2 ys hc2 (by omega) w2 HT2 HY2).mono ?_
  rintro e w3 ⟨v3, rfl, hO3, hb3⟩
  obtain ⟨A3, k3, rfl, _, hat3⟩ := hO3.at_ (by omega)
  have HR3 := Lib.hid (AtRows.later HR2.out hb3)
  have HS3 := Lib.hid hat3
  have HB3 := Lib.hid (HB2.out.trans (hb3.mono HB2.out.size))
  have HA3 := Lib.hid (AtB.later HA2 hb3)
  have HY3 := Lib.hid (AtB.later HY2 hb3)
  have HT3 := Tab.later HT2 hb3
  clear hb3 hO3 hat3 HB2 HA2 HY2 HT2 HR2
  generalize splitN ys = l2s at *
  generalize usedN l2s = u2 at *
  have e1 : decide ((u1 : Int) < 0) = false := by rw [decide_eq_false_iff_not]; omega
  have e2 : decide (len1 < u1) = false := by rw [decide_eq_false_iff_not]; omega
  have HP3 := Lib.hid (HA3.out.ahead u1 hu1)
  generalize hz : xs.take u1 = zs at *
  have hz' := Lib.hid hz
  clear hz
  go_wp2_with (first
    | (at_builtin; (refine wpList_append_bytes (by rfl) (.tmp 41) (.tmp 44) (by rfl) w3.heap.size _ 0 [] (by rfl) (Own.made w3) A u1 cap1 zs (by rfl) (AtB.later HP3 (below_made w3)) (by omega) (by simp) ?_); (intro v4 w4 hown4 hgrow4; have B4 := Own.below hgrow4; rw [Nat.zero_add, List.nil_append] at hown4; have HO4 := Lib.hid hown4; have HB4 := Lib.hid B4; have HY4 := Lib.hid (AtB.later HY3 B4); clear hown4 hgrow4 B4))
    | (at_builtin; (refine wpList_append_bytes (by rfl) (.tmp 45) (.tmp 46) (by rfl) w3.heap.size _ _ _ (by rfl) HO4.out B len2 cap2 ys (by rfl) HY4.out (by omega) HB4.out.size ?_); (intro v5 w5 hown5 hgrow5; have HB5 := Lib.hid (HB4.out.grown hgrow5 HB4.out.size (fun k hk => (HO4.out.2.lt k hk).1)); have HO5 := Lib.hid hown5; have HT5 := Tab.later HT3 HB5.out; clear hown5 hgrow5 HO4 HB4 HY4)))
  refine (split_own v5 w3.heap.size _ _ w5 HT5 HO5.out (by omega)).mono ?_
  rintro e w6 ⟨v6, rfl, hO6, hb6⟩
  rw [HJ.out] at hO6
  rw [HJ.out, HU.out]
  have hO6' : OwnRows w6 w5.heap.size v6 (l1s.length + l2s.length) (l1s ++ l2s) := by rw [List.length_append] at hO6; exact hO6
  obtain ⟨A6, k6, rfl, _, hat6⟩ := hO6'.at_ (by omega)
  have B36 := HB5.out.trans (hb6.mono HB5.out.size)
  have HB6 := Lib.hid (HB3.out.trans (B36.mono HB3.out.size))
  have HR6 := Lib.hid (AtRows.later HR3.out B36)
  have HS6 := Lib.hid (AtRows.later HS3.out B36)
  have HC6 := Lib.hid hat6
  have eu : (u1 : Int) + (u2 : Int) = ((u1 + u2 : Nat) : Int) := by omega
  have hu : u1 + u2 ≤ 2000 := by omega
  clear hb6 hO6 hO6' hat6 B36 HB5 HO5 HT5 HB3 HR3 HS3 HT3 HY3 HA3 HP3
  generalize u1 + u2 = u at *
  go_wp2_with (first
    | (at_builtin; (refine wpList_append_copies (w0 := w6) (by rfl) (.tmp 61) (.tmp 62) (by rfl) w6.heap.size _ 0 [] (by rfl) (CopyRows.made (Below.refl _ w6)) A2 l1s.length k2 l1s (by rfl) HR6.out (by omega) (by simp) ?_); (intro v7 w7 hown7 hgrow7; rw [Nat.zero_add, List.nil_append] at hown7; have HO7 := Lib.hid hown7; clear hown7 hgrow7))
    | (at_builtin; (refine wpList_append_copies (w0 := w6) (by rfl) (.tmp 63) (.tmp 64) (by rfl) w6.heap.size _ _ _ (by rfl) HO7.out A3 l2s.length k3 l2s (by rfl) HS6.out (by omega) (HO7.out.2.2.1.size) ?_); (intro v8 w8 hown8 hgrow8; have HO8 := Lib.hid hown8; clear hown8 hgrow8 HO7)))
  obtain ⟨A8, k8, rfl, _, hat8⟩ := HO8.out.at_ (by omega)
  have hb8 := HO8.out.2.2.1
  refine (rows_at A6 A8 _ k6 k8 _ w8 (AtRows.later HC6.out hb8) hat8).mono ?_
  rintro e w9 ⟨rfl, m, rfl⟩
  have HB8 := Lib.hid (HB6.out.trans (hb8.mono HB6.out.size))
  clear hat8 hb8
  go_wp2_with fail
  go_ret
  exact ⟨rfl, below_quiet HB8.out m⟩

set_option maxRecDepth 100000 in
theorem lifted (os : Os) (started : os.Started) (H : Type) (enc : TypeId × Value → H) :
    ReturnsInHanded {} Tryd.checked os 6 .any (fun w args => (Rows.frameJoinsSpec.pre enc Tryd.prog Tryd.f6 [] false w args ∧ laidMetH Tryd.prog laidHalf w) ∧ sizedMet enc Tryd.prog Tryd.f6 (OpenSpec.ofChange Rows.frameJoinsSpec) false w args)
      (Rows.frameJoinsSpec.post enc Tryd.prog Tryd.f6 false true false false) := by
  refine law_lifted_laid (C := Tryd.checked) (X := fun w _ => laidMetH Tryd.prog laidHalf w) (fun _ _ _ hh h => h.of_heap hh) own started (by kernel_rfl) Tryd.func6
    (ChangeSpec.witness_shaped (enc := enc) (C := Tryd.checked) (os := os) (X := fun w _ => laidMetH Tryd.prog laidHalf w) false (World.doorLaid Tryd.prog 400 os) #[.slice none 0 0, .slice none 0 0] 8 rfl (World.shaped_of_RefB (by kernel_rfl) (by kernel_rfl)) (by kernel_rfl) (by kernel_rfl) (by kernel_rfl) (door_met os _))
    (by kernel_rfl) (by kernel_rfl) Tryd.underlying4 rfl (by kernel_rfl) ?_
  intro W base args ds before hval hA _ hlt hL
  have hT := Lib.hid (tab_of_laid hL)
  have hA' : DataW.TrodAll enc Tryd.prog W 0 (fun _ => true) true Tryd.f6.params.toList args.toList ds before := hA
  have hval' : ∀ (j : Nat) t v, Tryd.f6.params[j]? = some t → args[j]? = some v → Value.okWide Tryd.prog W .any base t v := hval
  rw [Tryd.params6] at hA' hval'
  obtain ⟨v0, vs0, d0, ds0, p0, q0, hargs, rfl, rfl, h0, r0⟩ := trodAll_cons hA'
  obtain ⟨v1, vs1, d1, ds1, p1, q1, rfl, rfl, rfl, h1, r1⟩ := trodAll_cons r0
  obtain ⟨rfl, rfl, rfl⟩ := trodAll_nil r1
  obtain rfl : args = #[v0, v1] := by cases args; simp_all
  obtain ⟨Axs, lenxs, capxs, xs, rfl, hcxs, hatxs⟩ := open_at2 (hval' 0 22 v0 rfl rfl) h0 (fun x hx => hlt x (by simp [hx]))
  obtain ⟨Ays, lenys, capys, ys, rfl, hcys, hatys⟩ := open_at2 (hval' 1 22 v1 rfl rfl) h1 (fun x hx => hlt x (by simp [hx]))
  refine ⟨rfl, ?_⟩
  by_cases h1 : 1000 < lenxs
  · exact walkLongA Axs Ays lenxs capxs lenys capys h1 W hT
  · by_cases h2 : 1000 < lenys
    · exact walkLongB Axs Ays lenxs capxs lenys capys (by omega) h2 W hT
    · exact walkShort Axs Ays lenxs capxs lenys capys xs ys (by omega) (by omega) hcxs hcys W hT (Lib.hid hatxs) (Lib.hid hatys)

theorem over : Rows.frameJoinsRow.holds Tryd.pinned (OpenSpec.ofChange Rows.frameJoinsSpec) :=
  OpenClaim.holds_of_wide 6 Tryd.f6 rfl rfl rfl rfl rfl rfl rfl ⟨rfl, rfl, rfl, rfl, rfl⟩ rfl rfl rfl rfl rfl (by kernel_rfl) Tryd.func6 (by kernel_rfl)
    (of_decide_eq_true (by kernel_rfl)) (by unfold Func.isWrapper; first | (rw [if_pos (by decide +kernel)]; kernel_rfl) | (rw [if_neg (by decide +kernel)]; exact ⟨rfl, rfl⟩))
    (fun os started H enc _ => lifted os started H enc)

/-- The statement: the card, tied to the program's text. -/
theorem proved : Rows.FrameJoinsCardSaid :=
  Claim7.holds_tied_plain_at .later [] [.data] true (true, "9b6314bd2c376ad85478bd446ba648b9fdee3dca184135e774d1516cf3558f15") false
    over (fun _ h => by cases h) (by kernel_rfl) (fun _ h => by cases h) frameJoins_row_tie rfl ⟨rfl, rfl⟩ (by kernel_rfl) rfl
    (fun f fn hf hfn => by
      obtain rfl : f = 6 := Option.some.inj ((show Tryd.prog.funcNamed "weald/wealdlaw04.FrameJoins" = some 6 by kernel_rfl).symm.trans hf) |>.symm
      obtain rfl : fn = Tryd.f6 := (Option.some.inj (Tryd.func6.symm.trans hfn)).symm
      exact ⟨by kernel_rfl, fun j t ht => by
        rw [Tryd.params6] at ht
        have hm : t ∈ [22, 22] := by simpa using Array.mem_of_getElem? ht
        have hall : ([22, 22].all fun u => !Tryd.prog.wantsStandIn u) = true := by kernel_rfl
        exact (show Tryd.prog.wantsStandIn t = false by simpa using List.all_eq_true.1 hall t hm)⟩)
    (by kernel_rfl)
#print axioms proved
end Go.Proofs.YtalfjdlpmhmjkaaDoor.frameJoins
