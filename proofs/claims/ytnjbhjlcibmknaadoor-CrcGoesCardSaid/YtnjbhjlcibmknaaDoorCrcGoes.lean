/-
  CrcGoes: for every two rows of bytes (of up to 1000 each) the check of the first, gone on with the second, is that of both, one behind the other; gone on with nothing it stays. No condition but that the table of the program's text lies where it is laid.
-/
import Derived.Test.YtnjbhjlcibmknaaDoorSlices
import Derived.Test.YtnjbhjlcibmknaaDoorCards
import Derived.Test.YtnjbhjlcibmknaaDoorTie
import Derived.Test.YtnjbhjlcibmknaaDoorBytes
namespace Go.Proofs.YtnjbhjlcibmknaaDoor.crcGoes
open Go.ChangeShapes Go.WideShapes Go.ChangeAt Go.RowKit
set_option linter.unusedVariables false

theorem walkLong (A1 A2 : Option Addr) (len1 cap1 len2 cap2 : Nat) (h : 1000 < len1 ∨ 1000 < len2) (w : World) (hT : Hid (Tab w)) :
    Calls Tryd.prog 4 #[.slice A1 len1 cap1, .slice A2 len2 cap2] w fun e w' => e = .returned (.bool true) ∧ Below w.heap.size w w' := by
  by_cases h1 : 1000 < len1
  · clear h
    go_enter Tryd.func4, Tryd.ntmps4
    go_wp2_with fail
    refine (shown_below _ hT).mono ?_
    rintro e w1 ⟨rfl, hb⟩
    have HB := Lib.hid hb
    clear hb
    go_wp2_with fail
    go_ret
    exact ⟨rfl, HB.out⟩
  · have d1 : decide ((1000 : Int) < (len1 : Int)) = false := by rw [decide_eq_false_iff_not]; omega
    have d2 : decide ((1000 : Int) < (len2 : Int)) = true := by rw [decide_eq_true_eq]; omega
    clear h h1
    go_enter Tryd.func4, Tryd.ntmps4
    go_wp2_with fail
    refine (shown_below _ hT).mono ?_
    rintro e w1 ⟨rfl, hb⟩
    have HB := Lib.hid hb
    clear hb
    go_wp2_with fail
    go_ret
    exact ⟨rfl, HB.out⟩

set_option maxRecDepth 100000 in
theorem walkShort (A1 A2 : Option Addr) (len1 cap1 len2 cap2 : Nat) (xs ys : List Nat) (l1 : len1 ≤ 1000) (l2 : len2 ≤ 1000) (w : World) (hT : Hid (Tab w)) (h1 : Hid (AtB w A1 len1 xs)) (h2 : Hid (AtB w A2 len2 ys)) (p m : Nat)
    (p1 : p < 4294967296) (hp : Hid (moreN 0 xs = p)) (hm : Hid (moreN p ys = m)) (hq : Hid (moreN 0 ([] ++ xs ++ ys) = m)) (hz : Hid (moreN p [] = p)) :
    Calls Tryd.prog 4 #[.slice A1 len1 cap1, .slice A2 len2 cap2] w fun e w' => e = .returned (.bool true) ∧ Below w.heap.size w w' := by
  have d1 : decide ((1000 : Int) < (len1 : Int)) = false := by rw [decide_eq_false_iff_not]; omega
  have d2 : decide ((1000 : Int) < (len2 : Int)) = false := by rw [decide_eq_false_iff_not]; omega
  go_enter Tryd.func4, Tryd.ntmps4
  go_wp2_with fail
  refine (shown_below _ hT).mono ?_
  rintro e w1 ⟨rfl, hb⟩
  have HB := Lib.hid hb
  have H1 := Lib.hid (AtB.later h1 hb)
  have H2 := Lib.hid (AtB.later h2 hb)
  have HT := Tab.later hT hb
  clear hb h1 h2 hT
  go_wp2_with (first
    | (go_at_call 11; (with_reducible refine (sum_is' A1 len1 cap1 xs p _ HT H1.out hp.out).mono ?_); rintro e w' ⟨rfl, rfl⟩)
    | (go_at_call 13; (with_reducible refine (more_is' p p1 A2 len2 cap2 ys m _ HT H2.out hm.out).mono ?_); rintro e w' ⟨rfl, rfl⟩)
    | (at_builtin; refine wpList_append_bytes (by rfl) (.tmp 22) (.tmp 23) (by rfl) w1.heap.size _ 0 [] (by rfl) (Own.made w1) A1 len1 cap1 xs (by rfl) (AtB.later H1 (below_made w1)) (by omega) (by simp) ?_; intro v1 w2 hown1 hgrow1; have B1 := Lib.hid (Own.below hgrow1); have O1 := Lib.hid hown1; clear hown1 hgrow1)
    | (at_builtin; refine wpList_append_bytes (by rfl) (.tmp 24) (.tmp 25) (by rfl) w1.heap.size _ _ _ (by rfl) O1.out A2 len2 cap2 ys (by rfl) (AtB.later H2 B1.out) (by omega) B1.out.size ?_; intro v2 w3 hown2 hgrow2; have B2 := Lib.hid (Own.below2 B1.out O1.out hgrow2); have O2 := Lib.hid hown2; have T3 := Tab.later HT B2.out; have H3 := Lib.hid (AtB.later H1 B2.out); clear hown2 hgrow2 O1 B1)
    | (go_at_call 11; (with_reducible refine (sum_own v2 w1.heap.size (0 + len1 + len2) ([] ++ xs ++ ys) m _ T3 O2.out (by omega) hq.out).mono ?_); rintro e w' ⟨rfl, rfl⟩)
    | (go_at_call 11; (with_reducible refine (sum_is' A1 len1 cap1 xs p _ T3 H3.out hp.out).mono ?_); rintro e w' ⟨rfl, rfl⟩)
    | (go_at_call 13; (with_reducible refine (more_is' p p1 none 0 0 [] p _ T3 (AtB.nil _ _) hz.out).mono ?_); rintro e w' ⟨rfl, rfl⟩))
  go_ret
  exact ⟨rfl, HB.out.trans (B2.out.mono HB.out.size)⟩

set_option maxRecDepth 100000 in
theorem lifted (os : Os) (started : os.Started) (H : Type) (enc : TypeId × Value → H) :
    ReturnsInHanded {} Tryd.checked os 4 .any (fun w args => (Rows.crcGoesSpec.pre enc Tryd.prog Tryd.f4 [] false w args ∧ laidMetH Tryd.prog laidHalf w) ∧ sizedMet enc Tryd.prog Tryd.f4 (OpenSpec.ofChange Rows.crcGoesSpec) false w args)
      (Rows.crcGoesSpec.post enc Tryd.prog Tryd.f4 false true false false) := by
  refine law_lifted_laid (C := Tryd.checked) (X := fun w _ => laidMetH Tryd.prog laidHalf w) (fun _ _ _ hh h => h.of_heap hh) own started (by kernel_rfl) Tryd.func4
    (ChangeSpec.witness_shaped (enc := enc) (C := Tryd.checked) (os := os) (X := fun w _ => laidMetH Tryd.prog laidHalf w) false (World.doorLaid Tryd.prog 400 os) #[.slice none 0 0, .slice none 0 0] 8 rfl (World.shaped_of_RefB (by kernel_rfl) (by kernel_rfl)) (by kernel_rfl) (by kernel_rfl) (by kernel_rfl) (door_met os _))
    (by kernel_rfl) (by kernel_rfl) Tryd.underlying4 rfl (by kernel_rfl) ?_
  intro W base args ds before hval hA _ hlt hL
  have hT := Lib.hid (tab_of_laid hL)
  have hA' : DataW.TrodAll enc Tryd.prog W 0 (fun _ => true) true Tryd.f4.params.toList args.toList ds before := hA
  have hval' : ∀ (j : Nat) t v, Tryd.f4.params[j]? = some t → args[j]? = some v → Value.okWide Tryd.prog W .any base t v := hval
  rw [Tryd.params4] at hA' hval'
  obtain ⟨v0, vs0, d0, ds0, p0, q0, hargs, rfl, rfl, h0, r0⟩ := trodAll_cons hA'
  obtain ⟨v1, vs1, d1, ds1, p1, q1, rfl, rfl, rfl, h1, r1⟩ := trodAll_cons r0
  obtain ⟨rfl, rfl, rfl⟩ := trodAll_nil r1
  obtain rfl : args = #[v0, v1] := by cases args; simp_all
  obtain ⟨Axs, lenxs, capxs, xs, rfl, hatxs⟩ := open_at (hval' 0 23 v0 rfl rfl) h0 (fun x hx => hlt x (by simp [hx]))
  obtain ⟨Ays, lenys, capys, ys, rfl, hatys⟩ := open_at (hval' 1 23 v1 rfl rfl) h1 (fun x hx => hlt x (by simp [hx]))
  refine ⟨rfl, ?_⟩
  by_cases h : 1000 < lenxs ∨ 1000 < lenys
  · exact walkLong Axs Ays lenxs capxs lenys capys h W hT
  · exact walkShort Axs Ays lenxs capxs lenys capys xs ys (by omega) (by omega) W hT (Lib.hid hatxs) (Lib.hid hatys) _ _ (more_lt 0 xs) (Lib.hid rfl) (Lib.hid (more_append 0 xs ys (by omega) hatxs.2.1)) (Lib.hid rfl) (Lib.hid (more_nil _ (more_lt 0 xs)))

theorem over : Rows.crcGoesRow.holds Tryd.pinned (OpenSpec.ofChange Rows.crcGoesSpec) :=
  OpenClaim.holds_of_wide 4 Tryd.f4 rfl rfl rfl rfl rfl rfl rfl ⟨rfl, rfl, rfl, rfl, rfl⟩ rfl rfl rfl rfl rfl (by kernel_rfl) Tryd.func4 (by kernel_rfl)
    (of_decide_eq_true (by kernel_rfl)) (by unfold Func.isWrapper; first | (rw [if_pos (by decide +kernel)]; kernel_rfl) | (rw [if_neg (by decide +kernel)]; exact ⟨rfl, rfl⟩))
    (fun os started H enc _ => lifted os started H enc)

/-- The statement: the card, tied to the program's text. -/
theorem proved : Rows.CrcGoesCardSaid :=
  Claim7.holds_tied_plain_at .later [] [.data] true (true, "0e8ec7097c4b4dee8426ac6a055dd1ad84e808743d20e417da0e6eea88e908fd") false
    over (fun _ h => by cases h) (by kernel_rfl) (fun _ h => by cases h) crcGoes_row_tie rfl ⟨rfl, rfl⟩ (by kernel_rfl) rfl
    (fun f fn hf hfn => by
      obtain rfl : f = 4 := Option.some.inj ((show Tryd.prog.funcNamed "weald/wealdlaw03.CrcGoes" = some 4 by kernel_rfl).symm.trans hf) |>.symm
      obtain rfl : fn = Tryd.f4 := (Option.some.inj (Tryd.func4.symm.trans hfn)).symm
      exact ⟨by kernel_rfl, fun j t ht => by
        rw [Tryd.params4] at ht
        have hm : t ∈ [23, 23] := by simpa using Array.mem_of_getElem? ht
        have hall : ([23, 23].all fun u => !Tryd.prog.wantsStandIn u) = true := by kernel_rfl
        exact (show Tryd.prog.wantsStandIn t = false by simpa using List.all_eq_true.1 hall t hm)⟩)
    (by kernel_rfl)
#print axioms proved
end Go.Proofs.YtnjbhjlcibmknaaDoor.crcGoes
