/-
  FrameAgain: for every row of bytes (of up to 2000): what is split off, put into frames again, is the text, as far as it was used. No condition but that the table of the program's text lies where it is laid.
-/
import Derived.Test.YtalfjdlpmhmjkaaDoorFrmDoor
import Derived.Test.YtalfjdlpmhmjkaaDoorCopies
import Derived.Test.YtalfjdlpmhmjkaaDoorCards
import Derived.Test.YtalfjdlpmhmjkaaDoorTie
namespace Go.Proofs.YtalfjdlpmhmjkaaDoor.frameAgain
open Go.ChangeShapes Go.WideShapes Go.ChangeAt Go.RowKit
set_option linter.unusedVariables false

theorem walkLong (A : Option Addr) (len1 cap1 : Nat) (h : 2000 < len1) (w : World) (hT : Hid (Tab w)) :
    Calls Tryd.prog 7 #[.slice A len1 cap1] w fun e w' => e = .returned (.bool true) ∧ Below w.heap.size w w' := by
  have d1 : decide ((2000 : Int) < (len1 : Int)) = true := by rw [decide_eq_true_iff]; omega
  go_enter Tryd.func7, Tryd.ntmps7
  go_wp2_with fail
  refine (shown_below _ hT).mono ?_
  rintro e w1 ⟨rfl, hb⟩
  have HB := Lib.hid hb
  clear hb
  go_wp2_with fail
  go_ret
  exact ⟨rfl, HB.out⟩

/-- Behind k frames. -/
def AgRel (w : World) (ll : List (List Nat)) (v i : Value) (wr : World) : Prop :=
  ∃ k : Nat, k ≤ ll.length ∧ i = .int .i64 (k : Int) ∧ Own wr w.heap.size v (usedN (ll.take k)) (framesN (ll.take k)) ∧ Below w.heap.size w wr

set_option maxRecDepth 100000 in
set_option maxHeartbeats 4000000 in
theorem walkShort (A : Option Addr) (len1 cap1 : Nat) (xs : List Nat) (l1 : len1 ≤ 2000) (hc1 : len1 ≤ cap1) (w : World) (hT : Hid (Tab w)) (hA : Hid (AtB w A len1 xs)) :
    Calls Tryd.prog 7 #[.slice A len1 cap1] w fun e w' => e = .returned (.bool true) ∧ Below w.heap.size w w' := by
  have d1 : decide ((2000 : Int) < (len1 : Int)) = false := by rw [decide_eq_false_iff_not]; omega
  have hu1 : usedN (splitN xs) ≤ len1 := by rw [← hA.out.1]; exact used_le hA.out.2.1
  have hn1 : (splitN xs).length ≤ len1 := by rw [← hA.out.1]; exact count_le hA.out.2.1
  have HM : Hid (∀ b ∈ splitN xs, May b) := Lib.hid (split_may hA.out.2.1)
  have HTK : Hid (framesN (splitN xs) = xs.take (usedN (splitN xs))) := Lib.hid (split_take hA.out.2.1)
  go_enter Tryd.func7, Tryd.ntmps7
  go_wp2_with fail
  refine (shown_below _ hT).mono ?_
  rintro e w1 ⟨rfl, hb⟩
  have HB1 := Lib.hid hb
  have HA1 := Lib.hid (AtB.later hA hb)
  have HT1 := Tab.later hT hb
  clear hb hA hT
  go_wp2_with fail
  refine (split_at A len1 cap1 xs hc1 (by omega) w1 HT1 HA1).mono ?_
  rintro e w2 ⟨v2, rfl, hO2, hb2⟩
  obtain ⟨A2, k2, rfl, _, hat2⟩ := hO2.at_ (by omega)
  have HR2 := Lib.hid hat2
  have HB2 := Lib.hid (HB1.out.trans (hb2.mono HB1.out.size))
  have HA2 := Lib.hid (AtB.later HA1 hb2)
  have HT2 := Tab.later HT1 hb2
  clear hb2 hO2 hat2 HB1 HA1 HT1
  generalize splitN xs = ll at *
  generalize hU : usedN ll = u at *
  have HU := Lib.hid hU
  clear hU
  go_wp2_with fail
  go_loopw [6, 7] (fun v i wr => AgRel w2 ll v i wr) (fun _ i _ => ll.length - (intOf i).toNat)
  case atStart => exact ⟨0, Nat.zero_le _, rfl, ⟨fun x hx => by simp [framesN] at hx, World.ownsRow_nil _ _ _ _⟩, Below.refl _ _⟩
  case round =>
    obtain ⟨k, hk, rfl, hown, hbel⟩ := hrel
    have HO := Lib.hid hown
    have HB := Lib.hid hbel
    clear hown hbel
    by_cases hlt : k < ll.length
    · obtain ⟨b, off, e2, hb2, hc2⟩ := HR2.out.2.2 (by omega)
      subst e2
      obtain ⟨Ak, lk, ck, hcell, _, hatk⟩ := hc2 k hlt
      have hmay : May (ll.getD k []) := HM.out _ (by rw [List.getD_eq_getElem?_getD, List.getElem?_eq_getElem hlt]; exact List.getElem_mem _)
      have h1 : 1 ≤ lk := by rw [← hatk.1]; exact hmay.1
      have h2 : lk ≤ 65535 := by rw [← hatk.1]; exact hmay.2.1
      have hck := (HB.out.cell (p := ⟨b, off + k, none⟩) hb2).trans hcell
      have HAk := Lib.hid (hatk.below HB.out (Nat.le_refl _))
      have HTk := Tab.later HT2 HB.out
      have hus : usedN (ll.take k) ≤ 2000 := by have := used_take_le ll k; have := HU.out; omega
      have E1 := Lib.hid (take_used hlt)
      have E2 := Lib.hid (take_frames hlt)
      have EL : Hid ((ll.getD k []).length = lk) := Lib.hid hatk.1
      generalize ll.getD k [] = bk at *
      generalize usedN (ll.take k) = uk at *
      generalize framesN (ll.take k) = fk at *
      clear hc2 hatk hmay hcell
      go_wp2_with fail
      refine (put_at Ak lk ck bk h1 h2 wr HTk HAk).mono ?_
      rintro e w3 ⟨v3, rfl, hO3, hb3⟩
      obtain ⟨A3, k3, rfl, _, hat3⟩ := hO3.at_ (by omega)
      have HX3 := Lib.hid hat3
      have HO3 := Lib.hid (HO.out.later hb3)
      have HB3 := Lib.hid (HB.out.trans (hb3.mono HB.out.size))
      clear hO3 hat3 hb3 HO HB HTk HAk
      go_wp2_with (at_builtin; (refine wpList_append_bytes (by rfl) (.tmp 36) (.tmp 37) (by rfl) w2.heap.size u6 uk fk (by rfl) HO3.out A3 (lk + 6) k3 (frameN bk) (by rfl) HX3.out (by omega) HB3.out.size ?_); (intro v4 w4 hown4 hgrow4; have HB4 := Lib.hid (HB3.out.grown hgrow4 HB3.out.size (fun k hk => (HO3.out.2.lt k hk).1)); have HO4 := Lib.hid hown4; clear hown4 hgrow4))
      go_roundw
      case rel => exact ⟨k + 1, by omega, by go_num, by rw [E1.out, E2.out, EL.out]; exact HO4.out, HB4.out⟩
      case measure => simp [intOf]; omega
    · obtain rfl : k = ll.length := by omega
      have hO := HO.out
      rw [List.take_of_length_le (Nat.le_refl _), HU.out, HTK.out] at hO
      obtain ⟨Av, kv, rfl, _, hatv⟩ := hO.at_ (by omega)
      have hats := (AtB.later HA2 HB.out).ahead u hu1
      have s1 := fun q => run_str (AtB.drewN hatv q) kv
      have s2 := fun q => run_str (AtB.drewN hats q) cap1
      generalize strN (xs.take u) = S at *
      have e1 : decide (u ≤ len1) = true := by rw [decide_eq_true_iff]; exact hu1
      clear hO hatv hats HO
      go_wp2_with fail
      go_quiet (fail)
      go_wp2_with fail
      go_ret
      exact ⟨rfl, below_quiet (HB2.out.trans (HB.out.mono HB2.out.size)) _⟩

set_option maxRecDepth 100000 in
theorem lifted (os : Os) (started : os.Started) (H : Type) (enc : TypeId × Value → H) :
    ReturnsInHanded {} Tryd.checked os 7 .any (fun w args => (Rows.frameAgainSpec.pre enc Tryd.prog Tryd.f7 [] false w args ∧ laidMetH Tryd.prog laidHalf w) ∧ sizedMet enc Tryd.prog Tryd.f7 (OpenSpec.ofChange Rows.frameAgainSpec) false w args)
      (Rows.frameAgainSpec.post enc Tryd.prog Tryd.f7 false true false false) := by
  refine law_lifted_laid (C := Tryd.checked) (X := fun w _ => laidMetH Tryd.prog laidHalf w) (fun _ _ _ hh h => h.of_heap hh) own started (by kernel_rfl) Tryd.func7
    (ChangeSpec.witness_shaped (enc := enc) (C := Tryd.checked) (os := os) (X := fun w _ => laidMetH Tryd.prog laidHalf w) false (World.doorLaid Tryd.prog 400 os) #[.slice none 0 0] 8 rfl (World.shaped_of_RefB (by kernel_rfl) (by kernel_rfl)) (by kernel_rfl) (by kernel_rfl) (by kernel_rfl) (door_met os _))
    (by kernel_rfl) (by kernel_rfl) Tryd.underlying4 rfl (by kernel_rfl) ?_
  intro W base args ds before hval hA _ hlt hL
  have hT := Lib.hid (tab_of_laid hL)
  have hA' : DataW.TrodAll enc Tryd.prog W 0 (fun _ => true) true Tryd.f7.params.toList args.toList ds before := hA
  have hval' : ∀ (j : Nat) t v, Tryd.f7.params[j]? = some t → args[j]? = some v → Value.okWide Tryd.prog W .any base t v := hval
  rw [Tryd.params7] at hA' hval'
  obtain ⟨v0, vs0, d0, ds0, p0, q0, hargs, rfl, rfl, h0, r0⟩ := trodAll_cons hA'
  obtain ⟨rfl, rfl, rfl⟩ := trodAll_nil r0
  obtain rfl : args = #[v0] := by cases args; simp_all
  obtain ⟨Axs, lenxs, capxs, xs, rfl, hcxs, hatxs⟩ := open_at2 (hval' 0 22 v0 rfl rfl) h0 (fun x hx => hlt x (by simp [hx]))
  refine ⟨rfl, ?_⟩
  by_cases h1 : 2000 < lenxs
  · exact walkLong Axs lenxs capxs h1 W hT
  · exact walkShort Axs lenxs capxs xs (by omega) hcxs W hT (Lib.hid hatxs)

theorem over : Rows.frameAgainRow.holds Tryd.pinned (OpenSpec.ofChange Rows.frameAgainSpec) :=
  OpenClaim.holds_of_wide 7 Tryd.f7 rfl rfl rfl rfl rfl rfl rfl ⟨rfl, rfl, rfl, rfl, rfl⟩ rfl rfl rfl rfl rfl (by kernel_rfl) Tryd.func7 (by kernel_rfl)
    (of_decide_eq_true (by kernel_rfl)) (by unfold Func.isWrapper; first | (rw [if_pos (by decide +kernel)]; kernel_rfl) | (rw [if_neg (by decide +kernel)]; exact ⟨rfl, rfl⟩))
    (fun os started H enc _ => lifted os started H enc)

/-- The statement: the card, tied to the program's text. -/
theorem proved : Rows.FrameAgainCardSaid :=
  Claim7.holds_tied_plain_at .later [] [.data] true (true, "9b6314bd2c376ad85478bd446ba648b9fdee3dca184135e774d1516cf3558f15") false
    over (fun _ h => by cases h) (by kernel_rfl) (fun _ h => by cases h) frameAgain_row_tie rfl ⟨rfl, rfl⟩ (by kernel_rfl) rfl
    (fun f fn hf hfn => by
      obtain rfl : f = 7 := Option.some.inj ((show Tryd.prog.funcNamed "weald/wealdlaw04.FrameAgain" = some 7 by kernel_rfl).symm.trans hf) |>.symm
      obtain rfl : fn = Tryd.f7 := (Option.some.inj (Tryd.func7.symm.trans hfn)).symm
      exact ⟨by kernel_rfl, fun j t ht => by
        rw [Tryd.params7] at ht
        have hm : t ∈ [22] := by simpa using Array.mem_of_getElem? ht
        have hall : ([22].all fun u => !Tryd.prog.wantsStandIn u) = true := by kernel_rfl
        exact (show Tryd.prog.wantsStandIn t = false by simpa using List.all_eq_true.1 hall t hm)⟩)
    (by kernel_rfl)
#print axioms proved
end Go.Proofs.YtalfjdlpmhmjkaaDoor.frameAgain
