/-
  CrcFollows: two checks of 32 bits that differ differ still, gone on with the same bytes (up to 400); two that are the same stay so. No condition but that the table of the program's text lies where it is laid.
-/
import Derived.Test.YtnjbhjlcibmknaaDoorSlices
import Derived.Test.YtnjbhjlcibmknaaDoorCards
import Derived.Test.YtnjbhjlcibmknaaDoorTie
namespace Go.Proofs.YtnjbhjlcibmknaaDoor.crcFollows
open Go.ChangeShapes Go.WideShapes Go.ChangeAt Go.RowKit
set_option linter.unusedVariables false

theorem more_is' (s : Nat) (hs : s < 4294967296) (a : Option Addr) (len cap : Nat) (xs : List Nat) (n : Nat) (w : World) (hT : Hid (Tab w)) (h : AtB w a len xs) (hn : moreN s xs = n) :
    Calls Tryd.prog 13 #[.int .u32 (s : Int), .slice a len cap] w fun e w' => e = .returned (.int .u32 (n : Int)) ∧ w = w' := by
  rw [← hn]; exact more_at s hs a len cap xs w hT h

theorem walkLong (x y : Nat) (A : Option Addr) (len cap : Nat) (h : 400 < len) (w : World) (hT : Hid (Tab w)) :
    Calls Tryd.prog 9 #[.int .u32 (x : Int), .int .u32 (y : Int), .slice A len cap] w fun e w' => e = .returned (.bool true) ∧ Below w.heap.size w w' := by
  go_enter Tryd.func9, Tryd.ntmps9
  go_wp2_with fail
  refine (shown_below _ hT).mono ?_
  rintro e w1 ⟨rfl, hb⟩
  have HB := Lib.hid hb
  clear hb
  go_wp2_with fail
  go_ret
  exact ⟨rfl, HB.out⟩

set_option maxRecDepth 100000 in
theorem walkShort (x y : Nat) (hx : x < 4294967296) (hy : y < 4294967296) (A : Option Addr) (len cap : Nat) (xs : List Nat) (h : len ≤ 400) (w : World) (hT : Hid (Tab w)) (hA : Hid (AtB w A len xs)) (m n : Nat)
    (hm : Hid (moreN x xs = m)) (hn : Hid (moreN y xs = n)) (hq : (((m : Int) == (n : Int)) = true ∧ ((x : Int) == (y : Int)) = true) ∨ (((m : Int) == (n : Int)) = false ∧ ((x : Int) == (y : Int)) = false)) :
    Calls Tryd.prog 9 #[.int .u32 (x : Int), .int .u32 (y : Int), .slice A len cap] w fun e w' => e = .returned (.bool true) ∧ Below w.heap.size w w' := by
  rcases hq with ⟨q1, q2⟩ | ⟨q1, q2⟩
  all_goals
    go_enter Tryd.func9, Tryd.ntmps9
    go_wp2_with fail
    refine (shown_below _ hT).mono ?_
    rintro e w1 ⟨rfl, hb⟩
    have HB := Lib.hid hb
    have HA := Lib.hid (AtB.later hA hb)
    have HT := Tab.later hT hb
    clear hb hA hT
    go_wp2_with fail
    refine (more_is' x hx A len cap xs m _ HT HA.out hm.out).mono ?_
    rintro e w' ⟨rfl, rfl⟩
    go_wp2_with fail
    refine (more_is' y hy A len cap xs n _ HT HA.out hn.out).mono ?_
    rintro e w' ⟨rfl, rfl⟩
    go_wp2_with fail
    go_ret
    exact ⟨rfl, HB.out⟩

set_option maxRecDepth 100000 in
theorem lifted (os : Os) (started : os.Started) (H : Type) (enc : TypeId × Value → H) :
    ReturnsInHanded {} Tryd.checked os 9 .any (fun w args => (Rows.crcFollowsSpec.pre enc Tryd.prog Tryd.f9 [] false w args ∧ laidMetH Tryd.prog laidHalf w) ∧ sizedMet enc Tryd.prog Tryd.f9 (OpenSpec.ofChange Rows.crcFollowsSpec) false w args)
      (Rows.crcFollowsSpec.post enc Tryd.prog Tryd.f9 false true false false) := by
  refine law_lifted_laid (C := Tryd.checked) (X := fun w _ => laidMetH Tryd.prog laidHalf w) (fun _ _ _ hh h => h.of_heap hh) own started (by kernel_rfl) Tryd.func9
    (ChangeSpec.witness_shaped (enc := enc) (C := Tryd.checked) (os := os) (X := fun w _ => laidMetH Tryd.prog laidHalf w) false (World.doorLaid Tryd.prog 400 os) #[.int .u32 0, .int .u32 0, .slice none 0 0] 8 rfl (World.shaped_of_RefB (by kernel_rfl) (by kernel_rfl)) (by kernel_rfl) (by kernel_rfl) (by kernel_rfl) (door_met os _))
    (by kernel_rfl) (by kernel_rfl) Tryd.underlying4 rfl (by kernel_rfl) ?_
  intro W base args ds before hval hA _ hlt hL
  have hT := Lib.hid (tab_of_laid hL)
  have hA' : DataW.TrodAll enc Tryd.prog W 0 (fun _ => true) true Tryd.f9.params.toList args.toList ds before := hA
  have hval' : ∀ (j : Nat) t v, Tryd.f9.params[j]? = some t → args[j]? = some v → Value.okWide Tryd.prog W .any base t v := hval
  rw [Tryd.params9] at hA' hval'
  obtain ⟨v0, vs0, d0, ds0, p0, q0, hargs, rfl, rfl, h0, r0⟩ := trodAll_cons hA'
  obtain ⟨v1, vs1, d1, ds1, p1, q1, rfl, rfl, rfl, h1, r1⟩ := trodAll_cons r0
  obtain ⟨v2, vs2, d2, ds2, p2, q2, rfl, rfl, rfl, h2, r2⟩ := trodAll_cons r1
  obtain ⟨rfl, rfl, rfl⟩ := trodAll_nil r2
  obtain rfl : args = #[v0, v1, v2] := by cases args; simp_all
  obtain ⟨x, rfl, _, rfl, w0⟩ := open_int Tryd.underlying22 (hval' 0 22 v0 rfl rfl) h0
  have b0 := wf_u32 w0
  obtain ⟨x, rfl⟩ := Int.eq_ofNat_of_zero_le b0.1
  obtain ⟨y, rfl, _, rfl, w1⟩ := open_int Tryd.underlying22 (hval' 1 22 v1 rfl rfl) h1
  have b1 := wf_u32 w1
  obtain ⟨y, rfl⟩ := Int.eq_ofNat_of_zero_le b1.1
  obtain ⟨Axs, lenxs, capxs, xs, rfl, hatxs⟩ := open_at (hval' 2 23 v2 rfl rfl) h2 (fun x hx => hlt x (by simp [hx]))
  refine ⟨rfl, ?_⟩
  by_cases h : 400 < lenxs
  · exact walkLong x y Axs lenxs capxs h W hT
  · refine walkShort x y (by omega) (by omega) Axs lenxs capxs xs (by omega) W hT (Lib.hid hatxs) _ _ (Lib.hid rfl) (Lib.hid rfl) ?_
    have hi := more_inj (x := x) (y := y) (xs := xs) (by omega) (by omega) hatxs.2.1
    by_cases hxy : x = y
    · left; exact ⟨by rw [beq_iff_eq]; have := hi.2 hxy; omega, by rw [beq_iff_eq]; omega⟩
    · right; exact ⟨by rw [beq_eq_false_iff_ne]; have := fun e => hxy (hi.1 e); omega, by rw [beq_eq_false_iff_ne]; omega⟩

theorem over : Rows.crcFollowsRow.holds Tryd.pinned (OpenSpec.ofChange Rows.crcFollowsSpec) :=
  OpenClaim.holds_of_wide 9 Tryd.f9 rfl rfl rfl rfl rfl rfl rfl ⟨rfl, rfl, rfl, rfl, rfl⟩ rfl rfl rfl rfl rfl (by kernel_rfl) Tryd.func9 (by kernel_rfl)
    (of_decide_eq_true (by kernel_rfl)) (by unfold Func.isWrapper; first | (rw [if_pos (by decide +kernel)]; kernel_rfl) | (rw [if_neg (by decide +kernel)]; exact ⟨rfl, rfl⟩))
    (fun os started H enc _ => lifted os started H enc)

/-- The statement: the card, tied to the program's text. -/
theorem proved : Rows.CrcFollowsCardSaid :=
  Claim7.holds_tied_plain_at .later [] [.data] true (true, "0e8ec7097c4b4dee8426ac6a055dd1ad84e808743d20e417da0e6eea88e908fd") false
    over (fun _ h => by cases h) (by kernel_rfl) (fun _ h => by cases h) crcFollows_row_tie rfl ⟨rfl, rfl⟩ (by kernel_rfl) rfl
    (fun f fn hf hfn => by
      obtain rfl : f = 9 := Option.some.inj ((show Tryd.prog.funcNamed "weald/wealdlaw03.CrcFollows" = some 9 by kernel_rfl).symm.trans hf) |>.symm
      obtain rfl : fn = Tryd.f9 := (Option.some.inj (Tryd.func9.symm.trans hfn)).symm
      exact ⟨by kernel_rfl, fun j t ht => by
        rw [Tryd.params9] at ht
        have hm : t ∈ [22, 22, 23] := by simpa using Array.mem_of_getElem? ht
        have hall : ([22, 22, 23].all fun u => !Tryd.prog.wantsStandIn u) = true := by kernel_rfl
        exact (show Tryd.prog.wantsStandIn t = false by simpa using List.all_eq_true.1 hall t hm)⟩)
    (by kernel_rfl)
#print axioms proved
end Go.Proofs.YtnjbhjlcibmknaaDoor.crcFollows
