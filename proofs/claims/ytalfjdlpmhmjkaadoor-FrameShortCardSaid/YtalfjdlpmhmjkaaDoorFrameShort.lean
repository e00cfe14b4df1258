/-
  FrameShort: for every two rows of bytes (of up to 300): behind a head of two noughts nothing is told; a row has a frame just if it has a byte, six bytes longer; of fewer than seven bytes nothing is told. No condition but that the table of the program's text lies where it is laid.
-/
import Derived.Test.YtalfjdlpmhmjkaaDoorFrmDoor
import Derived.Test.YtalfjdlpmhmjkaaDoorCards
import Derived.Test.YtalfjdlpmhmjkaaDoorTie
namespace Go.Proofs.YtalfjdlpmhmjkaaDoor.frameShort
open Go.ChangeShapes Go.WideShapes Go.ChangeAt Go.RowKit
set_option linter.unusedVariables false

theorem walkLong (A B : Option Addr) (len1 cap1 len2 cap2 : Nat) (h : 300 < len1 ∨ 300 < len2) (w : World) (hT : Hid (Tab w)) :
    Calls Tryd.prog 8 #[.slice A len1 cap1, .slice B len2 cap2] w fun e w' => e = .returned (.bool true) ∧ Below w.heap.size w w' := by
  by_cases h1 : 300 < len1
  · have d1 : decide ((300 : Int) < (len1 : Int)) = true := by rw [decide_eq_true_iff]; omega
    clear h
    go_enter Tryd.func8, Tryd.ntmps8
    go_wp2_with fail
    refine (shown_below _ hT).mono ?_
    rintro e w1 ⟨rfl, hb⟩
    have HB := Lib.hid hb
    clear hb
    go_wp2_with fail
    go_ret
    exact ⟨rfl, HB.out⟩
  · have d1 : decide ((300 : Int) < (len1 : Int)) = false := by rw [decide_eq_false_iff_not]; omega
    have d2 : decide ((300 : Int) < (len2 : Int)) = true := by rw [decide_eq_true_iff]; omega
    clear h
    go_enter Tryd.func8, Tryd.ntmps8
    go_wp2_with fail
    refine (shown_below _ hT).mono ?_
    rintro e w1 ⟨rfl, hb⟩
    have HB := Lib.hid hb
    clear hb
    go_wp2_with fail
    go_ret
    exact ⟨rfl, HB.out⟩

set_option maxRecDepth 100000 in
set_option maxHeartbeats 4000000 in
theorem walkShort (A B : Option Addr) (len1 cap1 len2 cap2 : Nat) (xs ys : List Nat) (l1 : len1 ≤ 300) (l2 : len2 ≤ 300) (hc : len1 ≤ cap1) (w : World) (hT : Hid (Tab w)) (hA : Hid (AtB w A len1 xs)) (hB : Hid (AtB w B len2 ys)) :
    Calls Tryd.prog 8 #[.slice A len1 cap1, .slice B len2 cap2] w fun e w' => e = .returned (.bool true) ∧ Below w.heap.size w w' := by
  have d1 : decide ((300 : Int) < (len1 : Int)) = false := by rw [decide_eq_false_iff_not]; omega
  have d2 : decide ((300 : Int) < (len2 : Int)) = false := by rw [decide_eq_false_iff_not]; omega
  have HKS : Hid (∀ k, k ≤ 6 → splitN (xs.take k) = []) := Lib.hid (fun k hk => split_short (by have := List.length_take_le k xs; omega))
  have HNS : Hid (splitN ([0, 0] ++ xs) = []) := Lib.hid (split_noughts xs)
  go_enter Tryd.func8, Tryd.ntmps8
  go_wp2_with fail
  refine (shown_below _ hT).mono ?_
  rintro e w1 ⟨rfl, hb⟩
  have HB1 := Lib.hid hb
  have HA1 := Lib.hid (AtB.later hA hb)
  have HY1 := Lib.hid (AtB.later hB hb)
  have HT1 := Tab.later hT hb
  have HO1 := Lib.hid (Own.lit w1 [0, 0] (fun x hx => by simp at hx; omega) (by simp; unfold maxLen; omega))
  clear hb hA hB hT
  go_wp2_with (at_builtin; (refine wpList_append_bytes (by rfl) (.tmp 23) (.tmp 24) (by rfl) w1.heap.size _ 2 [0, 0] (by rfl) HO1.out A len1 cap1 xs (by rfl) (AtB.later HA1 ((Below.refl _ _).alloc (Nat.le_refl _) _)) (by omega) (by simp) ?_); (intro v2 w2 hown2 hgrow2; have B2 := ((Below.refl w1.heap.size w1).alloc (Nat.le_refl _) _).grown hgrow2 (by simp) (fun k hk => by simp [Value.ownBlock] at hk; omega); have HO2 := Lib.hid hown2; have HB2 := Lib.hid (HB1.out.trans (B2.mono HB1.out.size)); have HY2 := Lib.hid (AtB.later HY1 B2); have HA2 := Lib.hid (AtB.later HA1 B2); have HT2 := Tab.later HT1 B2; clear hown2 hgrow2 B2 HO1 HB1 HA1 HY1 HT1))
  refine (split_own v2 w1.heap.size _ _ w2 HT2 HO2.out (by omega)).mono ?_
  rintro e w3 ⟨v3, rfl, hO3, hb3⟩
  rw [HNS.out] at hO3
  rw [HNS.out, show ((usedN [] : Nat) : Int) = 0 from rfl]
  have hO3' : OwnRows w3 w2.heap.size v3 0 [] := hO3
  obtain ⟨A3, k3, rfl, _, _⟩ := hO3'.at_ (by decide)
  have HB3 := Lib.hid (HB2.out.trans (hb3.mono HB2.out.size))
  have HY3 := Lib.hid (AtB.later HY2 hb3)
  have HA3 := Lib.hid (AtB.later HA2 hb3)
  have HT3 := Tab.later HT2 hb3
  clear hb3 hO3 hO3' HO2 HB2 HY2 HA2 HT2
  go_wp2_with fail
  refine (put_any B len2 cap2 ys (by omega) w3 HT3 HY3).mono ?_
  rintro e w4 ⟨A4, n4, c4, E4, z4, rfl, hE4, hz4, hat4, hb4⟩
  have hyl := HY3.out.1
  have hzl := hat4.1
  have HB4 := Lib.hid (HB3.out.trans (hb4.mono HB3.out.size))
  have HA4 := Lib.hid (AtB.later HA3 hb4)
  have HT4 := Tab.later HT3 hb4
  clear hb4 hat4 HB3 HY3 HA3 HT3
  by_cases hy : ys = []
  · rw [if_pos hy] at hE4 hz4
    obtain rfl : len2 = 0 := by rw [← hyl, hy]; rfl
    subst hE4
    clear hz4 hzl hyl hy
    go_wp2_with fail
    · have HP := Lib.hid (HA4.out.ahead 6 (by omega))
      have HZ := Lib.hid (HKS.out 6 (by omega))
      (with_reducible refine (split_at A 6 cap1 (xs.take 6) (by omega) (by omega) w4 HT4 HP).mono ?_)
      rintro e w5 ⟨v5, rfl, hO5, hb5⟩
      rw [HZ.out] at hO5
      rw [HZ.out, show ((usedN [] : Nat) : Int) = 0 from rfl]
      have hO5' : OwnRows w5 w4.heap.size v5 0 [] := hO5
      obtain ⟨A5, k5, rfl, _, _⟩ := hO5'.at_ (by decide)
      have HB5 := Lib.hid (HB4.out.trans (hb5.mono HB4.out.size))
      clear hb5 hO5 hO5' HB4
      go_wp2_with fail
      go_ret
      exact ⟨rfl, HB5.out⟩
    · have HP := Lib.hid (HA4.out.ahead len1 (by omega))
      have HZ := Lib.hid (HKS.out len1 (by omega))
      (with_reducible refine (split_at A len1 cap1 (xs.take len1) (by omega) (by omega) w4 HT4 HP).mono ?_)
      rintro e w5 ⟨v5, rfl, hO5, hb5⟩
      rw [HZ.out] at hO5
      rw [HZ.out, show ((usedN [] : Nat) : Int) = 0 from rfl]
      have hO5' : OwnRows w5 w4.heap.size v5 0 [] := hO5
      obtain ⟨A5, k5, rfl, _, _⟩ := hO5'.at_ (by decide)
      have HB5 := Lib.hid (HB4.out.trans (hb5.mono HB4.out.size))
      clear hb5 hO5 hO5' HB4
      go_wp2_with fail
      go_ret
      exact ⟨rfl, HB5.out⟩
  · rw [if_neg hy] at hE4 hz4
    have hn4 : n4 = len2 + 6 := by rw [← hzl, hz4, frame_length, hyl]
    have hpos : 0 < len2 := by rw [← hyl]; exact List.length_pos_iff.2 hy
    subst hE4 hn4
    clear hz4 hzl hyl hy
    go_wp2_with fail
    · have HP := Lib.hid (HA4.out.ahead 6 (by omega))
      have HZ := Lib.hid (HKS.out 6 (by omega))
      (with_reducible refine (split_at A 6 cap1 (xs.take 6) (by omega) (by omega) w4 HT4 HP).mono ?_)
      rintro e w5 ⟨v5, rfl, hO5, hb5⟩
      rw [HZ.out] at hO5
      rw [HZ.out, show ((usedN [] : Nat) : Int) = 0 from rfl]
      have hO5' : OwnRows w5 w4.heap.size v5 0 [] := hO5
      obtain ⟨A5, k5, rfl, _, _⟩ := hO5'.at_ (by decide)
      have HB5 := Lib.hid (HB4.out.trans (hb5.mono HB4.out.size))
      clear hb5 hO5 hO5' HB4
      go_wp2_with fail
      go_ret
      exact ⟨rfl, HB5.out⟩
    · have HP := Lib.hid (HA4.out.ahead len1 (by omega))
      have HZ := Lib.hid (HKS.out len1 (by omega))
      (with_reducible refine (split_at A len1 cap1 (xs.take len1) (by omega) (by omega) w4 HT4 HP).mono ?_)
      rintro e w5 ⟨v5, rfl, hO5, hb5⟩
      rw [HZ.out] at hO5
      rw [HZ.out, show ((usedN [] : Nat) : Int) = 0 from rfl]
      have hO5' : OwnRows w5 w4.heap.size v5 0 [] := hO5
      obtain ⟨A5, k5, rfl, _, _⟩ := hO5'.at_ (by decide)
      have HB5 := Lib.hid (HB4.out.trans (hb5.mono HB4.out.size))
      clear hb5 hO5 hO5' HB4
      go_wp2_with fail
      go_ret
      exact ⟨rfl, HB5.out⟩

set_option maxRecDepth 100000 in
theorem lifted (os : Os) (started : os.Started) (H : Type) (enc : TypeId × Value → H) :
    ReturnsInHanded {} Tryd.checked os 8 .any (fun w args => (Rows.frameShortSpec.pre enc Tryd.prog Tryd.f8 [] false w args ∧ laidMetH Tryd.prog laidHalf w) ∧ sizedMet enc Tryd.prog Tryd.f8 (OpenSpec.ofChange Rows.frameShortSpec) false w args)
      (Rows.frameShortSpec.post enc Tryd.prog Tryd.f8 false true false false) := by
  refine law_lifted_laid (C := Tryd.checked) (X := fun w _ => laidMetH Tryd.prog laidHalf w) (fun _ _ _ hh h => h.of_heap hh) own started (by kernel_rfl) Tryd.func8
    (ChangeSpec.witness_shaped (enc := enc) (C := Tryd.checked) (os := os) (X := fun w _ => laidMetH Tryd.prog laidHalf w) false (World.doorLaid Tryd.prog 400 os) #[.slice none 0 0, .slice none 0 0] 8 rfl (World.shaped_of_RefB (by kernel_rfl) (by kernel_rfl)) (by kernel_rfl) (by kernel_rfl) (by kernel_rfl) (door_met os _))
    (by kernel_rfl) (by kernel_rfl) Tryd.underlying4 rfl (by kernel_rfl) ?_
  intro W base args ds before hval hA _ hlt hL
  have hT := Lib.hid (tab_of_laid hL)
  have hA' : DataW.TrodAll enc Tryd.prog W 0 (fun _ => true) true Tryd.f8.params.toList args.toList ds before := hA
  have hval' : ∀ (j : Nat) t v, Tryd.f8.params[j]? = some t → args[j]? = some v → Value.okWide Tryd.prog W .any base t v := hval
  rw [Tryd.params8] at hA' hval'
  obtain ⟨v0, vs0, d0, ds0, p0, q0, hargs, rfl, rfl, h0, r0⟩ := trodAll_cons hA'
  obtain ⟨v1, vs1, d1, ds1, p1, q1, rfl, rfl, rfl, h1, r1⟩ := trodAll_cons r0
  obtain ⟨rfl, rfl, rfl⟩ := trodAll_nil r1
  obtain rfl : args = #[v0, v1] := by cases args; simp_all
  obtain ⟨Axs, lenxs, capxs, xs, rfl, hcxs, hatxs⟩ := open_at2 (hval' 0 22 v0 rfl rfl) h0 (fun x hx => hlt x (by simp [hx]))
  obtain ⟨Ays, lenys, capys, ys, rfl, hatys⟩ := open_at (hval' 1 22 v1 rfl rfl) h1 (fun x hx => hlt x (by simp [hx]))
  refine ⟨rfl, ?_⟩
  by_cases h : 300 < lenxs ∨ 300 < lenys
  · exact walkLong Axs Ays lenxs capxs lenys capys h W hT
  · exact walkShort Axs Ays lenxs capxs lenys capys xs ys (by omega) (by omega) hcxs W hT (Lib.hid hatxs) (Lib.hid hatys)

theorem over : Rows.frameShortRow.holds Tryd.pinned (OpenSpec.ofChange Rows.frameShortSpec) :=
  OpenClaim.holds_of_wide 8 Tryd.f8 rfl rfl rfl rfl rfl rfl rfl ⟨rfl, rfl, rfl, rfl, rfl⟩ rfl rfl rfl rfl rfl (by kernel_rfl) Tryd.func8 (by kernel_rfl)
    (of_decide_eq_true (by kernel_rfl)) (by unfold Func.isWrapper; first | (rw [if_pos (by decide +kernel)]; kernel_rfl) | (rw [if_neg (by decide +kernel)]; exact ⟨rfl, rfl⟩))
    (fun os started H enc _ => lifted os started H enc)

/-- The statement: the card, tied to the program's text. -/
theorem proved : Rows.FrameShortCardSaid :=
  Claim7.holds_tied_plain_at .later [] [.data] true (true, "9b6314bd2c376ad85478bd446ba648b9fdee3dca184135e774d1516cf3558f15") false
    over (fun _ h => by cases h) (by kernel_rfl) (fun _ h => by cases h) frameShort_row_tie rfl ⟨rfl, rfl⟩ (by kernel_rfl) rfl
    (fun f fn hf hfn => by
      obtain rfl : f = 8 := Option.some.inj ((show Tryd.prog.funcNamed "weald/wealdlaw04.FrameShort" = some 8 by kernel_rfl).symm.trans hf) |>.symm
      obtain rfl : fn = Tryd.f8 := (Option.some.inj (Tryd.func8.symm.trans hfn)).symm
      exact ⟨by kernel_rfl, fun j t ht => by
        rw [Tryd.params8] at ht
        have hm : t ∈ [22, 22] := by simpa using Array.mem_of_getElem? ht
        have hall : ([22, 22].all fun u => !Tryd.prog.wantsStandIn u) = true := by kernel_rfl
        exact (show Tryd.prog.wantsStandIn t = false by simpa using List.all_eq_true.1 hall t hm)⟩)
    (by kernel_rfl)
#print axioms proved
end Go.Proofs.YtalfjdlpmhmjkaaDoor.frameShort
