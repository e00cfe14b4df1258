/-
  SaveBehind: a bit stands only behind a sync of its entry, whatever fails; for every key, either bit, every row of failures. No condition beyond the statement's own.
-/
import Derived.Test.YtdbomlclkhkinaaDoorSavTwo
import Derived.Test.YtdbomlclkhkinaaDoorSavBytes
import Derived.Test.YtdbomlclkhkinaaDoorEntB
import Derived.Test.YtdbomlclkhkinaaDoorPlyLeaf
import Derived.Test.YtdbomlclkhkinaaDoorAfter
import Derived.Test.YtdbomlclkhkinaaDoorCards
import Derived.Test.YtdbomlclkhkinaaDoorTie
import Derived.Test.YtdbomlclkhkinaaDoorLaw
import Derived.Test.YtdbomlclkhkinaaDoorFields
import Derived.Deep.Cut
import Derived.Deep.CutRange
namespace Go.Proofs.YtdbomlclkhkinaaDoor.saveBehind
open Go.ChangeShapes Go.WideShapes Go.ChangeAt Go.RowKit Go.Deep Go.BigFrame
set_option linter.unusedVariables false
theorem own : ownKnob Tryd.prog.godebug = none := by kernel_rfl
abbrev laidHalf : List (String × DataW Unit) := [("weald/crc.half", Rows.laid_weald_crc_half)]
theorem door_met (os : Os) (args : Array Value) : laidMetH Tryd.prog laidHalf ((World.doorLaid Tryd.prog 400 os).forCall (fun _ _ => 0) ⟨#[], args, []⟩).memory :=
  laidMetH_of_parts3 (fuel := 8) (laidMet_of_run' 8 (by kernel_rfl) (by kernel_rfl)) (by kernel_rfl) (by kernel_rfl)

set_option maxRecDepth 100000 in
set_option maxHeartbeats 8000000 in
theorem walk_true_no (k : Nat) (hk : k < 18446744073709551616) (FA : Option Addr) (fn fc : Nat) (ff : Nat → Bool) (hfc : fn ≤ fc) (hmay : (Ent.mk 1 1 k 0 0 0).mayB = false) (w : World) (HTab : Hid (Tab w)) (HFA : Hid (BlsAt w FA fn ff)) :
    Calls Tryd.prog 3 #[.int .u64 (k : Int), .bool true, .slice FA fn fc] w fun e w' => e = .returned (.bool true) ∧ Below w.heap.size w w' := by
  have HN : ∀ w, Calls Tryd.prog 8 #[.int .i64 2, .int .i64 2] w (NewWd w 2 2 (sizeN 2 2) (newF 2 2)) := fun w => newWd_at 2 2 (by decide) (by decide) (by decide) w
  have hsz : sizeN 2 2 ≤ 1000000 := by decide
  have hn : 20 < sizeN 2 2 := by decide
  have C1 : ∀ (A : Option Addr) (ka : Nat) (R : Option Addr) (ra : Nat) (S : Option Addr) (sa : Nat) (w : World), Hid (Tab w) → Hid (AtW w A (sizeN 2 2) (newF 2 2)) → Hid (StmsAt w R 2 (zerosS 2)) → Hid (StmsAt w S 2 (zerosS 2)) →
      Calls Tryd.prog 9 #[.agg #[.int .i64 2, .int .i64 2, .slice A (sizeN 2 2) ka, .int .u64 0, .slice R 2 ra, .slice S 2 sa], .int .i64 0, .agg #[.int .i64 20, .int .i64 2, .int .i64 0, .int .u64 (k : Int)], .int .i64 20, .slice none 0 0] w (AloneS w 2 2 A (sizeN 2 2) R S 2 (mkG 2 2 2 k) (zerosS 2) (zerosS 2) 0 false 1) := fun A ka R ra S sa w h0 h1 h2 h3 => aloneN 2 (by decide) 0 (by decide) 2 20 2 0 k hk ⟨fun _ => by decide, fun h => absurd h (by decide)⟩ 20 (by decide) (sizeN 2 2) hsz (by decide) (newF 2 2) (zerosS 2) (zerosS 2) 1 (mkG 2 2 2 k, zerosS 2) 7 (bv_make hk) (by decide) A ka R ra S sa w h0 h1 h2 h3
  have HMY : ∀ w, Calls Tryd.prog 10 #[.agg #[.int .i64 1, .int .u64 1, .int .u64 (k : Int), .int .u64 0, .int .u64 0, .int .u64 0]] w (Kept w (.bool false)) := fun w => by
    have h := refMay_any 1 1 k 0 0 0 hk w
    rw [hmay] at h
    exact h
  clear hsz hmay hfc hk
  generalize sizeN 2 2 = n at *
  generalize mkG 2 2 2 k = G1 at *
  generalize newF 2 2 = G0 at *
  have i1 : (20 : Int) < (n : Int) := by omega
  have HN20 := Lib.hid hn
  clear hn
  go_enter Tryd.func3, Tryd.ntmps3
  go_wp2_with fail
  (with_reducible refine (savShown _ HTab).mono ?_)
  rintro e w1 ⟨rfl, hb⟩
  have BB := Lib.hid (Below.refl w.heap.size w)
  have HTabn := Tab.later HTab hb; clear HTab; have HTab := HTabn; clear HTabn
  have HFAn := Lib.hid (HFA.out.later hb); clear HFA; have HFA := HFAn; clear HFAn
  have BBn := Lib.hid (BB.out.trans (hb.mono BB.out.size)); clear BB; have BB := BBn; clear BBn
  clear hb
  go_wp2_with fail
  (with_reducible refine (HN _).mono ?_)
  clear HN
  rintro e w0 ⟨A0, ka0, R0, ra0, S0, sa0, rfl, ha, hs0, hs1, hb, _⟩
  go_upto_region 3 with fail
  have W0 := Lib.hid (WdAt.made0 (t := 2) (c := 2) (k := ka0) (r := 0) (ra := ra0) (sa := sa0) w0 33 ha hs0 hs1)
  have hbn := hb.trans ((al_below w0 (.cells #[.int .i64 2, .int .i64 2, .slice A0 n ka0, .int .u64 0, .slice R0 2 ra0, .slice S0 2 sa0] 33)).mono hb.size)
  clear ha hs0 hs1 hb
  generalize w0.alloc (.cells #[.int .i64 2, .int .i64 2, .slice A0 n ka0, .int .u64 0, .slice R0 2 ra0, .slice S0 2 sa0] 33) = x0 at W0 hbn ⊢
  generalize w0.heap.size = b0 at W0 ⊢
  have HTabn := Tab.later HTab hbn; clear HTab; have HTab := HTabn; clear HTabn
  have HFAn := Lib.hid (HFA.out.later hbn); clear HFA; have HFA := HFAn; clear HFAn
  have BBn := Lib.hid (BB.out.trans (hbn.mono BB.out.size)); clear BB; have BB := BBn; clear BBn
  clear hbn
  obtain ⟨c0, c1, c2, c3, c4, c5⟩ := W0.out.cells
  go_wp2_with fail
  (with_reducible refine (C1 A0 ka0 R0 ra0 S0 sa0 _ HTab W0.out.gA W0.out.g0 W0.out.g1).mono ?_)
  clear c0 c1 c2 c3 c4 c5 C1 W0
  rintro e w1 ⟨A1, ka1, R1, ra1, S1, sa1, rfl, ha, hs0, hs1, hb, hP⟩
  go_upto_region 4 with fail
  have hbx : Below w1.heap.size w1 ((w1.alloc (.cells #[.int .i64 2, .int .i64 2, .slice A1 n ka1, .int .u64 0, .slice R1 2 ra1, .slice S1 2 sa1] 33)).alloc (.cells #[.int .i64 0, .bool false, .int .i64 0, .int .u64 1, .slice none 0 0] 38)) := below_pair _ _ _
  have W1 := Lib.hid (WdAt.made (t := 2) (c := 2) (k := ka1) (r := 0) (ra := ra1) (sa := sa1) w1 (.cells #[.int .i64 0, .bool false, .int .i64 0, .int .u64 1, .slice none 0 0] 38) 33 ha hs0 hs1)
  have O1 := Lib.hid (VarAt.made1 w1 (.cells #[.int .i64 2, .int .i64 2, .slice A1 n ka1, .int .u64 0, .slice R1 2 ra1, .slice S1 2 sa1] 33) #[.int .i64 0, .bool false, .int .i64 0, .int .u64 1, .slice none 0 0] 38)
  have hbn := hb.trans (hbx.mono hb.size)
  generalize (w1.alloc (.cells #[.int .i64 2, .int .i64 2, .slice A1 n ka1, .int .u64 0, .slice R1 2 ra1, .slice S1 2 sa1] 33)).alloc (.cells #[.int .i64 0, .bool false, .int .i64 0, .int .u64 1, .slice none 0 0] 38) = x1 at hbx hbn W1 O1 ⊢
  clear ha hs0 hs1 hb hP hbx
  obtain ⟨b1, hb1⟩ : ∃ b, w1.heap.size = b := ⟨_, rfl⟩
  rw [hb1] at W1 O1 ⊢
  clear hb1
  have HTabn := Tab.later HTab hbn; clear HTab; have HTab := HTabn; clear HTabn
  have HFAn := Lib.hid (HFA.out.later hbn); clear HFA; have HFA := HFAn; clear HFAn
  have BBn := Lib.hid (BB.out.trans (hbn.mono BB.out.size)); clear BB; have BB := BBn; clear BBn
  clear hbn
  go_upto_region 9 with fail
  refine gen_at (P := fun W => Code.wp _ _ _ _ W) (fun z => Below x1.heap.size x1 z ∧ VarAt z x1.heap.size [.int .i64 1, .int .u64 1, .int .u64 (k : Int), .int .u64 0, .int .u64 0, .int .u64 0]) ⟨(by repeat (first | with_reducible assumption | with_reducible exact Below.refl _ _ | with_reducible refine Below.drew ?_ | with_reducible refine below_al ?_ | (with_reducible refine below_set1 (by omega) _ ?_))), VarAt.mk6 (by simp <;> omega) (by go_simp) (by go_simp) (by go_simp) (by go_simp) (by go_simp) (by go_simp) (by go_simp) (by go_simp) (by go_simp) (by go_simp) (by go_simp) (by go_simp)⟩ ?_
  rintro z ⟨hbz, hE⟩
  have HE := Lib.hid hE
  obtain ⟨be, hbe⟩ : ∃ b, x1.heap.size = b := ⟨_, rfl⟩
  rw [hbe] at HE ⊢
  clear hE hbe
  have HTabn := Tab.later HTab hbz; clear HTab; have HTab := HTabn; clear HTabn
  have HFAn := Lib.hid (HFA.out.later hbz); clear HFA; have HFA := HFAn; clear HFAn
  have W1n := Lib.hid (W1.out.later hbz); clear W1; have W1 := W1n; clear W1n
  have O1n := Lib.hid (O1.out.below hbz); clear O1; have O1 := O1n; clear O1n
  have BBn := Lib.hid (BB.out.trans (hbz.mono BB.out.size)); clear BB; have BB := BBn; clear BBn
  clear hbz
  obtain ⟨_, ⟨o0, o1, o2, o3, o4⟩, _⟩ := O1.out.five
  obtain ⟨_, ⟨e0, e1, e2, e3, e4, e5⟩, _⟩ := HE.out.six
  go_wp2_with fail
  (with_reducible refine (HMY _).mono ?_)
  clear HMY
  rintro e w3 ⟨rfl, hb3⟩
  clear o0 o1 o2 o3 o4 e0 e1 e2 e3 e4 e5
  have HTabn := Tab.later HTab hb3; clear HTab; have HTab := HTabn; clear HTabn
  have HFAn := Lib.hid (HFA.out.later hb3); clear HFA; have HFA := HFAn; clear HFAn
  have W1n := Lib.hid (W1.out.later hb3); clear W1; have W1 := W1n; clear W1n
  have O1n := Lib.hid (O1.out.below hb3); clear O1; have O1 := O1n; clear O1n
  have HEn := Lib.hid (HE.out.below hb3); clear HE; have HE := HEn; clear HEn
  have BBn := Lib.hid (BB.out.trans (hb3.mono BB.out.size)); clear BB; have BB := BBn; clear BBn
  clear hb3
  obtain ⟨_, ⟨o0, o1, o2, o3, o4⟩, _⟩ := O1.out.five
  go_wp2_with fail
  go_ret
  exact ⟨rfl, BB.out⟩

set_option maxRecDepth 100000 in
set_option maxHeartbeats 8000000 in
theorem walk_true_1 (k : Nat) (hk : k < 18446744073709551616) (FA : Option Addr) (fn fc : Nat) (ff : Nat → Bool) (hfc : fn ≤ fc) (hmay : (Ent.mk 1 1 k 0 0 0).mayB = true) (GF : Nat → Nat) (lF : List Stm) (j : Nat) (s : Stm) (hrun : (sPrg 2 7 2 (1 : Int) 0 2000).run (Prd.wTell (sizeN 2 2) 1 fun j => decide (j < fn) && ff j) ((mkG 2 2 2 k, zerosS 2), 0) = .done 1 ((GF, lF), j)) (hj : j ≤ 20) (hls : lF[1]? = some s) (hgf : GF 20 < 18446744073709551616) (hhas : hasF (GF 20) (1 : Int) = true) (hs : s = ⟨dataN (Ent.mk 1 1 k 0 0 0), ((dataN (Ent.mk 1 1 k 0 0 0)).length : Int)⟩) (w : World) (HTab : Hid (Tab w)) (HFA : Hid (BlsAt w FA fn ff)) :
    Calls Tryd.prog 3 #[.int .u64 (k : Int), .bool true, .slice FA fn fc] w fun e w' => e = .returned (.bool true) ∧ Below w.heap.size w w' := by
  have HN : ∀ w, Calls Tryd.prog 8 #[.int .i64 2, .int .i64 2] w (NewWd w 2 2 (sizeN 2 2) (newF 2 2)) := fun w => newWd_at 2 2 (by decide) (by decide) (by decide) w
  have hsz : sizeN 2 2 ≤ 1000000 := by decide
  have hn : 20 < sizeN 2 2 := by decide
  have C1 : ∀ (A : Option Addr) (ka : Nat) (R : Option Addr) (ra : Nat) (S : Option Addr) (sa : Nat) (w : World), Hid (Tab w) → Hid (AtW w A (sizeN 2 2) (newF 2 2)) → Hid (StmsAt w R 2 (zerosS 2)) → Hid (StmsAt w S 2 (zerosS 2)) →
      Calls Tryd.prog 9 #[.agg #[.int .i64 2, .int .i64 2, .slice A (sizeN 2 2) ka, .int .u64 0, .slice R 2 ra, .slice S 2 sa], .int .i64 0, .agg #[.int .i64 20, .int .i64 2, .int .i64 0, .int .u64 (k : Int)], .int .i64 20, .slice none 0 0] w (AloneS w 2 2 A (sizeN 2 2) R S 2 (mkG 2 2 2 k) (zerosS 2) (zerosS 2) 0 false 1) := fun A ka R ra S sa w h0 h1 h2 h3 => aloneN 2 (by decide) 0 (by decide) 2 20 2 0 k hk ⟨fun _ => by decide, fun h => absurd h (by decide)⟩ 20 (by decide) (sizeN 2 2) hsz (by decide) (newF 2 2) (zerosS 2) (zerosS 2) 1 (mkG 2 2 2 k, zerosS 2) 7 (bv_make hk) (by decide) A ka R ra S sa w h0 h1 h2 h3
  have HMY : ∀ w, Calls Tryd.prog 10 #[.agg #[.int .i64 1, .int .u64 1, .int .u64 (k : Int), .int .u64 0, .int .u64 0, .int .u64 0]] w (Kept w (.bool true)) := fun w => by
    have h := refMay_any 1 1 k 0 0 0 hk w
    rw [hmay] at h
    exact h
  have C2 : ∀ (A : Option Addr) (ka : Nat) (R : Option Addr) (ra : Nat) (S : Option Addr) (sa : Nat) (w : World), Hid (Tab w) → Hid (BlsAt w FA fn ff) → Hid (AtW w A (sizeN 2 2) (mkG 2 2 2 k)) → Hid (StmsAt w R 2 (zerosS 2)) → Hid (StmsAt w S 2 (zerosS 2)) →
      Calls Tryd.prog 9 #[.agg #[.int .i64 2, .int .i64 2, .slice A (sizeN 2 2) ka, .int .u64 0, .slice R 2 ra, .slice S 2 sa], .int .i64 1, .agg #[.int .i64 7, .int .i64 2, .int .i64 1, .int .u64 0], .int .i64 20, .slice FA fn fc] w (AloneS w 2 2 A (sizeN 2 2) R S 2 GF lF (zerosS 2) 0 true 0) := fun A ka R ra S sa w h0 hF h1 h2 h3 => aloneF 2 (by decide) 1 (by decide) 2 7 2 1 0 (by decide) ⟨fun _ => by decide, fun _ => by decide⟩ 20 (by decide) (sizeN 2 2) hsz (by decide) (mkG 2 2 2 k) (zerosS 2) (zerosS 2) 1 (GF, lF) j FA fn fc ff hfc hrun hj A ka R ra S sa w h0 hF h1 h2 h3
  have HF : ∀ w, Calls Tryd.prog 12 #[.int .i64 2, .int .i64 2, .int .i64 2] w fun e w' => e = .returned (.int .i64 20) ∧ w = w' := fun w => refField_any 2 2 2 (by decide) (by decide) (by decide) (by decide) w
  have HH : ∀ w, Calls Tryd.prog 11 #[.int .u64 (GF 20 : Int), .int .i64 1] w fun e w' => e = .returned (.bool true) ∧ w = w' := fun w => by
    have h := refHas_any (GF 20) 1 hgf w
    rw [hhas] at h
    exact h
  have HBY : ∀ w, Calls Tryd.prog 13 #[.agg #[.int .i64 1, .int .u64 1, .int .u64 (k : Int), .int .u64 0, .int .u64 0, .int .u64 0]] w (DataPost w (dataN (Ent.mk 1 1 k 0 0 0))) := fun w => rBytes_any 1 1 k 0 0 0 ⟨show 1 < 18446744073709551616 by decide, hk, show 0 < 18446744073709551616 by decide, show 0 < 18446744073709551616 by decide, show 0 < 18446744073709551616 by decide⟩ w
  have hdl := data_len (Ent.mk 1 1 k 0 0 0)
  obtain ⟨nd, hnd⟩ : ∃ m, (dataN (Ent.mk 1 1 k 0 0 0)).length = m := ⟨_, rfl⟩
  generalize dataN (Ent.mk 1 1 k 0 0 0) = dd at *
  subst hs
  have HDL := Lib.hid hdl
  have HND := Lib.hid hnd
  clear hdl hnd
  have HLS := Lib.hid hls
  clear hrun hj hls hgf hhas
  clear hsz hmay hfc hk
  generalize sizeN 2 2 = n at *
  generalize mkG 2 2 2 k = G1 at *
  generalize newF 2 2 = G0 at *
  have i1 : (20 : Int) < (n : Int) := by omega
  have HN20 := Lib.hid hn
  clear hn
  go_enter Tryd.func3, Tryd.ntmps3
  go_wp2_with fail
  (with_reducible refine (savShown _ HTab).mono ?_)
  rintro e w1 ⟨rfl, hb⟩
  have BB := Lib.hid (Below.refl w.heap.size w)
  have HTabn := Tab.later HTab hb; clear HTab; have HTab := HTabn; clear HTabn
  have HFAn := Lib.hid (HFA.out.later hb); clear HFA; have HFA := HFAn; clear HFAn
  have BBn := Lib.hid (BB.out.trans (hb.mono BB.out.size)); clear BB; have BB := BBn; clear BBn
  clear hb
  go_wp2_with fail
  (with_reducible refine (HN _).mono ?_)
  clear HN
  rintro e w0 ⟨A0, ka0, R0, ra0, S0, sa0, rfl, ha, hs0, hs1, hb, _⟩
  go_upto_region 3 with fail
  have W0 := Lib.hid (WdAt.made0 (t := 2) (c := 2) (k := ka0) (r := 0) (ra := ra0) (sa := sa0) w0 33 ha hs0 hs1)
  have hbn := hb.trans ((al_below w0 (.cells #[.int .i64 2, .int .i64 2, .slice A0 n ka0, .int .u64 0, .slice R0 2 ra0, .slice S0 2 sa0] 33)).mono hb.size)
  clear ha hs0 hs1 hb
  generalize w0.alloc (.cells #[.int .i64 2, .int .i64 2, .slice A0 n ka0, .int .u64 0, .slice R0 2 ra0, .slice S0 2 sa0] 33) = x0 at W0 hbn ⊢
  generalize w0.heap.size = b0 at W0 ⊢
  have HTabn := Tab.later HTab hbn; clear HTab; have HTab := HTabn; clear HTabn
  have HFAn := Lib.hid (HFA.out.later hbn); clear HFA; have HFA := HFAn; clear HFAn
  have BBn := Lib.hid (BB.out.trans (hbn.mono BB.out.size)); clear BB; have BB := BBn; clear BBn
  clear hbn
  obtain ⟨c0, c1, c2, c3, c4, c5⟩ := W0.out.cells
  go_wp2_with fail
  (with_reducible refine (C1 A0 ka0 R0 ra0 S0 sa0 _ HTab W0.out.gA W0.out.g0 W0.out.g1).mono ?_)
  clear c0 c1 c2 c3 c4 c5 C1 W0
  rintro e w1 ⟨A1, ka1, R1, ra1, S1, sa1, rfl, ha, hs0, hs1, hb, hP⟩
  go_upto_region 4 with fail
  have hbx : Below w1.heap.size w1 ((w1.alloc (.cells #[.int .i64 2, .int .i64 2, .slice A1 n ka1, .int .u64 0, .slice R1 2 ra1, .slice S1 2 sa1] 33)).alloc (.cells #[.int .i64 0, .bool false, .int .i64 0, .int .u64 1, .slice none 0 0] 38)) := below_pair _ _ _
  have W1 := Lib.hid (WdAt.made (t := 2) (c := 2) (k := ka1) (r := 0) (ra := ra1) (sa := sa1) w1 (.cells #[.int .i64 0, .bool false, .int .i64 0, .int .u64 1, .slice none 0 0] 38) 33 ha hs0 hs1)
  have O1 := Lib.hid (VarAt.made1 w1 (.cells #[.int .i64 2, .int .i64 2, .slice A1 n ka1, .int .u64 0, .slice R1 2 ra1, .slice S1 2 sa1] 33) #[.int .i64 0, .bool false, .int .i64 0, .int .u64 1, .slice none 0 0] 38)
  have hbn := hb.trans (hbx.mono hb.size)
  generalize (w1.alloc (.cells #[.int .i64 2, .int .i64 2, .slice A1 n ka1, .int .u64 0, .slice R1 2 ra1, .slice S1 2 sa1] 33)).alloc (.cells #[.int .i64 0, .bool false, .int .i64 0, .int .u64 1, .slice none 0 0] 38) = x1 at hbx hbn W1 O1 ⊢
  clear ha hs0 hs1 hb hP hbx
  obtain ⟨b1, hb1⟩ : ∃ b, w1.heap.size = b := ⟨_, rfl⟩
  rw [hb1] at W1 O1 ⊢
  clear hb1
  have HTabn := Tab.later HTab hbn; clear HTab; have HTab := HTabn; clear HTabn
  have HFAn := Lib.hid (HFA.out.later hbn); clear HFA; have HFA := HFAn; clear HFAn
  have BBn := Lib.hid (BB.out.trans (hbn.mono BB.out.size)); clear BB; have BB := BBn; clear BBn
  clear hbn
  go_upto_region 9 with fail
  refine gen_at (P := fun W => Code.wp _ _ _ _ W) (fun z => Below x1.heap.size x1 z ∧ VarAt z x1.heap.size [.int .i64 1, .int .u64 1, .int .u64 (k : Int), .int .u64 0, .int .u64 0, .int .u64 0]) ⟨(by repeat (first | with_reducible assumption | with_reducible exact Below.refl _ _ | with_reducible refine Below.drew ?_ | with_reducible refine below_al ?_ | (with_reducible refine below_set1 (by omega) _ ?_))), VarAt.mk6 (by simp <;> omega) (by go_simp) (by go_simp) (by go_simp) (by go_simp) (by go_simp) (by go_simp) (by go_simp) (by go_simp) (by go_simp) (by go_simp) (by go_simp) (by go_simp)⟩ ?_
  rintro z ⟨hbz, hE⟩
  have HE := Lib.hid hE
  obtain ⟨be, hbe⟩ : ∃ b, x1.heap.size = b := ⟨_, rfl⟩
  rw [hbe] at HE ⊢
  clear hE hbe
  have HTabn := Tab.later HTab hbz; clear HTab; have HTab := HTabn; clear HTabn
  have HFAn := Lib.hid (HFA.out.later hbz); clear HFA; have HFA := HFAn; clear HFAn
  have W1n := Lib.hid (W1.out.later hbz); clear W1; have W1 := W1n; clear W1n
  have O1n := Lib.hid (O1.out.below hbz); clear O1; have O1 := O1n; clear O1n
  have BBn := Lib.hid (BB.out.trans (hbz.mono BB.out.size)); clear BB; have BB := BBn; clear BBn
  clear hbz
  obtain ⟨_, ⟨o0, o1, o2, o3, o4⟩, _⟩ := O1.out.five
  obtain ⟨_, ⟨e0, e1, e2, e3, e4, e5⟩, _⟩ := HE.out.six
  go_wp2_with fail
  (with_reducible refine (HMY _).mono ?_)
  clear HMY
  rintro e w3 ⟨rfl, hb3⟩
  clear o0 o1 o2 o3 o4 e0 e1 e2 e3 e4 e5
  have HTabn := Tab.later HTab hb3; clear HTab; have HTab := HTabn; clear HTabn
  have HFAn := Lib.hid (HFA.out.later hb3); clear HFA; have HFA := HFAn; clear HFAn
  have W1n := Lib.hid (W1.out.later hb3); clear W1; have W1 := W1n; clear W1n
  have O1n := Lib.hid (O1.out.below hb3); clear O1; have O1 := O1n; clear O1n
  have HEn := Lib.hid (HE.out.below hb3); clear HE; have HE := HEn; clear HEn
  have BBn := Lib.hid (BB.out.trans (hb3.mono BB.out.size)); clear BB; have BB := BBn; clear BBn
  clear hb3
  obtain ⟨c0, c1, c2, c3, c4, c5⟩ := W1.out.cells
  go_wp2_with fail
  (with_reducible refine (C2 A1 ka1 R1 ra1 S1 sa1 _ HTab HFA W1.out.gA W1.out.g0 W1.out.g1).mono ?_)
  clear c0 c1 c2 c3 c4 c5 C2 O1
  rintro e w2 ⟨A2, ka2, R2, ra2, S2, sa2, rfl, ha, hs0, hs1, hb, hP⟩
  go_upto_region 12 with fail
  have hbx : Below w2.heap.size w2 ((w2.alloc (.cells #[.int .i64 2, .int .i64 2, .slice A2 n ka2, .int .u64 0, .slice R2 2 ra2, .slice S2 2 sa2] 33)).alloc (.cells #[.int .i64 0, .bool true, .int .i64 0, .int .u64 0, .slice none 0 0] 38)) := below_pair _ _ _
  have W2 := Lib.hid (WdAt.made (t := 2) (c := 2) (k := ka2) (r := 0) (ra := ra2) (sa := sa2) w2 (.cells #[.int .i64 0, .bool true, .int .i64 0, .int .u64 0, .slice none 0 0] 38) 33 ha hs0 hs1)
  have O2 := Lib.hid (VarAt.made1 w2 (.cells #[.int .i64 2, .int .i64 2, .slice A2 n ka2, .int .u64 0, .slice R2 2 ra2, .slice S2 2 sa2] 33) #[.int .i64 0, .bool true, .int .i64 0, .int .u64 0, .slice none 0 0] 38)
  have hbn := hb.trans (hbx.mono hb.size)
  generalize (w2.alloc (.cells #[.int .i64 2, .int .i64 2, .slice A2 n ka2, .int .u64 0, .slice R2 2 ra2, .slice S2 2 sa2] 33)).alloc (.cells #[.int .i64 0, .bool true, .int .i64 0, .int .u64 0, .slice none 0 0] 38) = x2 at hbx hbn W2 O2 ⊢
  clear ha hs0 hs1 hb hP hbx
  obtain ⟨b2, hb2⟩ : ∃ b, w2.heap.size = b := ⟨_, rfl⟩
  rw [hb2] at W2 O2 ⊢
  clear hb2
  have W1n := Lib.hid (W1.out.later hbn); clear W1; have W1 := W1n; clear W1n
  have HEn := Lib.hid (HE.out.below hbn); clear HE; have HE := HEn; clear HEn
  have BBn := Lib.hid (BB.out.trans (hbn.mono BB.out.size)); clear BB; have BB := BBn; clear BBn
  clear hbn
  obtain ⟨_, _, c2, _, c4, _⟩ := W2.out.cells
  obtain ⟨_, _, d2, _, _, _⟩ := W1.out.cells
  go_upto_region 14 with fail
  clear d2 c4
  obtain ⟨gw, fw, rfl, hgw, hcw⟩ := W2.out.2.1.2 (by have := HN20.out; omega)
  have w20 := hcw 20 HN20.out
  clear hcw hgw
  go_quiet (first | (go_at_call 12; with_reducible exact quiet_call (HF _)) | (go_at_call 11; with_reducible exact quiet_call (HH _)))
  clear c2 w20
  have hbq : Below x2.heap.size x2 (x2.drewN nq) := below_draw (Below.refl _ _) _
  generalize x2.drewN nq = x5 at hbq ⊢
  have W2n := Lib.hid (W2.out.later hbq); clear W2; have W2 := W2n; clear W2n
  have O2n := Lib.hid (O2.out.below hbq); clear O2; have O2 := O2n; clear O2n
  have HEn := Lib.hid (HE.out.below hbq); clear HE; have HE := HEn; clear HEn
  have BBn := Lib.hid (BB.out.trans (hbq.mono BB.out.size)); clear BB; have BB := BBn; clear BBn
  clear hbq W1
  obtain ⟨g2, f2, rfl, hg2, hc2⟩ := W2.out.2.2.1.2.2 (by decide)
  obtain ⟨_, _, _, _, c4, _⟩ := W2.out.cells
  obtain ⟨D2, q2, z20, z21, z22, z23, z24, z25⟩ := hc2 1 _ HLS.out
  try dsimp only at z20 z21 z22 z23 z24 z25
  rw [show f2 + 1 * 2 = f2 + 2 by omega] at z20 z24
  rw [HND.out] at z20 z21 z23 z24
  have HAT := Lib.hid z23
  clear hc2 z22 z23 z25
  go_upto_region 16 with fail
  refine gen_at (P := fun W => Code.wp _ _ _ _ W) (fun z => Below x5.heap.size x5 z ∧ VarAt z x5.heap.size [.slice D2 nd q2, .int .i64 (nd : Int)]) ⟨al_below _ _, VarAt.made _ _ _⟩ ?_
  rintro z6 ⟨hbz, hE⟩
  have HS := Lib.hid hE
  obtain ⟨bs, hbs⟩ : ∃ b, x5.heap.size = b := ⟨_, rfl⟩
  have HAT6 := Lib.hid (HAT.out.below hbz (Nat.le_refl _))
  rw [hbs] at HS ⊢
  clear hE hbs z20 z21 z24 c4 hg2 HAT
  have O2n := Lib.hid (O2.out.below hbz); clear O2; have O2 := O2n; clear O2n
  have HEn := Lib.hid (HE.out.below hbz); clear HE; have HE := HEn; clear HEn
  have BBn := Lib.hid (BB.out.trans (hbz.mono BB.out.size)); clear BB; have BB := BBn; clear BBn
  clear hbz W2
  have hC1 : ∀ w', Below z6.heap.size z6 w' → w'.cell? ⟨b2 + 1, 1, none⟩ = some (.bool true) := fun w' hb => (O2.out.below hb).five.2.1.2.1
  have hE0 : ∀ w', Below z6.heap.size z6 w' → w'.cell? ⟨be, 0, none⟩ = some (.int .i64 1) := fun w' hb => (HE.out.below hb).2.1 0 _ rfl
  have hE1 : ∀ w', Below z6.heap.size z6 w' → w'.cell? ⟨be, 1, none⟩ = some (.int .u64 1) := fun w' hb => (HE.out.below hb).2.1 1 _ rfl
  have hE2 : ∀ w', Below z6.heap.size z6 w' → w'.cell? ⟨be, 2, none⟩ = some (.int .u64 (k : Int)) := fun w' hb => (HE.out.below hb).2.1 2 _ rfl
  have hE3 : ∀ w', Below z6.heap.size z6 w' → w'.cell? ⟨be, 3, none⟩ = some (.int .u64 0) := fun w' hb => (HE.out.below hb).2.1 3 _ rfl
  have hE4 : ∀ w', Below z6.heap.size z6 w' → w'.cell? ⟨be, 4, none⟩ = some (.int .u64 0) := fun w' hb => (HE.out.below hb).2.1 4 _ rfl
  have hE5 : ∀ w', Below z6.heap.size z6 w' → w'.cell? ⟨be, 5, none⟩ = some (.int .u64 0) := fun w' hb => (HE.out.below hb).2.1 5 _ rfl
  have hS0 : ∀ w', Below z6.heap.size z6 w' → w'.cell? ⟨bs, 0, none⟩ = some (.slice D2 nd q2) := fun w' hb => (HS.out.below hb).two.2.1
  have hS1 : ∀ w', Below z6.heap.size z6 w' → w'.cell? ⟨bs, 1, none⟩ = some (.int .i64 (nd : Int)) := fun w' hb => (HS.out.below hb).two.2.2.1
  have s1 : ∀ w', Below z6.heap.size z6 w' → (convert 48 9 (.slice D2 nd q2)).run Tryd.prog w' = .ok (.string (strN dd)) w' := fun w' hb => run_str (AtB.later HAT6 hb) q2
  have hB0 : Below z6.heap.size z6 z6 := Below.refl _ _
  have HZ := Lib.hid hB0
  refine wp_region_noPanic ?_
  refine wp_region_held_drew (S := fun w' => Below z6.heap.size z6 w') (by kernel_rfl) (Below.drew (Below.refl _ _)) (fun hHeld => ?_)
  refine wpAnyH_take (i := 0) (oi := _) (v := ?_) rfl (by kernel_rfl) (by kernel_rfl) (by kernel_rfl) (fun _ _ _ h => h) (Or.inl ⟨by rfl, ?_⟩) (by assumption) ?_
  rotate_left
  · intro w hSw
    (try dsimp only at hSw)
    go_simp
    with_reducible rfl
  try simp only [List.getElem_toArray, List.getElem_cons_zero, Act.put, List.setIfInBounds_toArray, List.set_cons_zero, List.set_cons_succ]
  refine wpAnyH_take (i := 1) (oi := _) (v := ?_) rfl (by kernel_rfl) (by kernel_rfl) (by kernel_rfl) (fun _ _ _ h => h) (Or.inl ⟨by rfl, ?_⟩) (by assumption) ?_
  rotate_left
  · intro w hSw
    (try dsimp only at hSw)
    go_simp
    with_reducible rfl
  try simp only [List.getElem_toArray, List.getElem_cons_succ, List.getElem_cons_zero, Act.put, List.setIfInBounds_toArray, List.set_cons_zero, List.set_cons_succ]
  refine wpAnyH_take (i := 2) (oi := _) (v := ?_) rfl (by kernel_rfl) (by kernel_rfl) (by kernel_rfl) (fun _ _ _ h => h) (Or.inl ⟨by rfl, ?_⟩) (by assumption) ?_
  rotate_left
  · intro w hSw
    (try dsimp only at hSw)
    go_simp
    with_reducible rfl
  try simp only [List.getElem_toArray, List.getElem_cons_succ, List.getElem_cons_zero, Act.put, List.setIfInBounds_toArray, List.set_cons_zero, List.set_cons_succ]
  refine wpAnyH_take (i := 3) (oi := _) (v := ?_) rfl (by kernel_rfl) (by kernel_rfl) (by kernel_rfl) (fun _ _ _ h => h) (Or.inl ⟨by rfl, ?_⟩) (by assumption) ?_
  rotate_left
  · intro w hSw
    (try dsimp only at hSw)
    go_simp
    with_reducible rfl
  try simp only [List.getElem_toArray, List.getElem_cons_succ, List.getElem_cons_zero, Act.put, List.setIfInBounds_toArray, List.set_cons_zero, List.set_cons_succ]
  refine wpAnyH_take (i := 4) (oi := _) (v := ?_) rfl (by kernel_rfl) (by kernel_rfl) (by kernel_rfl) (fun _ _ _ h => h) (Or.inl ⟨by rfl, ?_⟩) (by assumption) ?_
  rotate_left
  · intro w hSw
    (try dsimp only at hSw)
    go_simp
    with_reducible rfl
  try simp only [List.getElem_toArray, List.getElem_cons_succ, List.getElem_cons_zero, Act.put, List.setIfInBounds_toArray, List.set_cons_zero, List.set_cons_succ]
  refine wpAnyH_take (i := 5) (oi := _) (v := ?_) rfl (by kernel_rfl) (by kernel_rfl) (by kernel_rfl) (fun _ _ _ h => h) (Or.inl ⟨by rfl, ?_⟩) (by assumption) ?_
  rotate_left
  · intro w hSw
    (try dsimp only at hSw)
    go_simp
    with_reducible rfl
  try simp only [List.getElem_toArray, List.getElem_cons_succ, List.getElem_cons_zero, Act.put, List.setIfInBounds_toArray, List.set_cons_zero, List.set_cons_succ]
  refine wpAnyH_take (i := 6) (oi := _) (v := ?_) rfl (by kernel_rfl) (by kernel_rfl) (by kernel_rfl) (fun _ _ _ h => h) (Or.inl ⟨by rfl, ?_⟩) (by assumption) ?_
  rotate_left
  · intro w hSw
    (try dsimp only at hSw)
    go_simp
    with_reducible rfl
  try simp only [List.getElem_toArray, List.getElem_cons_succ, List.getElem_cons_zero, Act.put, List.setIfInBounds_toArray, List.set_cons_zero, List.set_cons_succ]
  refine wpAnyH_take (i := 7) (oi := _) (v := ?_) rfl (by kernel_rfl) (by kernel_rfl) (by kernel_rfl) (fun _ _ _ h => h) (Or.inl ⟨by rfl, ?_⟩) (by assumption) ?_
  rotate_left
  · intro w hSw
    (try dsimp only at hSw)
    go_simp
    with_reducible rfl
  try simp only [List.getElem_toArray, List.getElem_cons_succ, List.getElem_cons_zero, Act.put, List.setIfInBounds_toArray, List.set_cons_zero, List.set_cons_succ]
  refine wpAnyH_take (i := 8) (oi := _) (v := ?_) rfl (by kernel_rfl) (by kernel_rfl) (by kernel_rfl) (fun _ _ _ h => h) (Or.inl ⟨by rfl, ?_⟩) (by assumption) ?_
  rotate_left
  · intro w hSw
    (try dsimp only at hSw)
    go_simp
    with_reducible rfl
  try simp only [List.getElem_toArray, List.getElem_cons_succ, List.getElem_cons_zero, Act.put, List.setIfInBounds_toArray, List.set_cons_zero, List.set_cons_succ]
  refine wpAnyH_take (i := 9) (oi := _) (v := ?_) rfl (by kernel_rfl) (by kernel_rfl) (by kernel_rfl) (fun _ _ _ h => h) (Or.inl ⟨by rfl, ?_⟩) (by assumption) ?_
  rotate_left
  · intro w hSw
    (try dsimp only at hSw)
    go_simp
    with_reducible rfl
  try simp only [List.getElem_toArray, List.getElem_cons_succ, List.getElem_cons_zero, Act.put, List.setIfInBounds_toArray, List.set_cons_zero, List.set_cons_succ]
  refine wpAnyH_take (i := 10) (oi := _) (v := ?_) rfl (by kernel_rfl) (by kernel_rfl) (by kernel_rfl) (fun _ _ _ h => h) (Or.inl ⟨by rfl, ?_⟩) (by assumption) ?_
  rotate_left
  · intro w hSw
    (try dsimp only at hSw)
    go_simp
    with_reducible rfl
  try simp only [List.getElem_toArray, List.getElem_cons_succ, List.getElem_cons_zero, Act.put, List.setIfInBounds_toArray, List.set_cons_zero, List.set_cons_succ]
  refine wpAnyH_take (i := 11) (oi := _) (v := ?_) rfl (by kernel_rfl) (by kernel_rfl) (by kernel_rfl) (fun _ _ _ h => h) (Or.inl ⟨by rfl, ?_⟩) (by assumption) ?_
  rotate_left
  · intro w hSw
    (try dsimp only at hSw)
    go_simp
    with_reducible rfl
  try simp only [List.getElem_toArray, List.getElem_cons_succ, List.getElem_cons_zero, Act.put, List.setIfInBounds_toArray, List.set_cons_zero, List.set_cons_succ]
  refine wpAnyH_take (i := 12) (oi := _) (v := ?_) rfl (by kernel_rfl) (by kernel_rfl) (by kernel_rfl) (fun _ _ _ h => h) (Or.inl ⟨by rfl, ?_⟩) (by assumption) ?_
  rotate_left
  · intro w hSw
    (try dsimp only at hSw)
    go_simp
    with_reducible rfl
  try simp only [List.getElem_toArray, List.getElem_cons_succ, List.getElem_cons_zero, Act.put, List.setIfInBounds_toArray, List.set_cons_zero, List.set_cons_succ]
  refine wpAnyH_take (i := 13) (oi := _) (v := ?_) rfl (by kernel_rfl) (by kernel_rfl) (by kernel_rfl) (fun _ _ _ h => h) (Or.inl ⟨by rfl, ?_⟩) (by assumption) ?_
  rotate_left
  · intro w hSw
    (try dsimp only at hSw)
    go_simp
    with_reducible rfl
  try simp only [List.getElem_toArray, List.getElem_cons_succ, List.getElem_cons_zero, Act.put, List.setIfInBounds_toArray, List.set_cons_zero, List.set_cons_succ]
  refine wpAnyH_take (i := 14) (oi := _) (v := ?_) rfl (by kernel_rfl) (by kernel_rfl) (by kernel_rfl) (fun _ _ _ h => h) (Or.inl ⟨by rfl, ?_⟩) (by assumption) ?_
  rotate_left
  · intro w hSw
    (try dsimp only at hSw)
    go_simp
    with_reducible rfl
  try simp only [List.getElem_toArray, List.getElem_cons_succ, List.getElem_cons_zero, Act.put, List.setIfInBounds_toArray, List.set_cons_zero, List.set_cons_succ]
  refine wpAnyH_take (i := 15) (oi := _) (v := ?_) rfl (by kernel_rfl) (by kernel_rfl) (by kernel_rfl) (fun _ _ _ h => h) (Or.inl ⟨by rfl, ?_⟩) (by assumption) ?_
  rotate_left
  · intro w hSw
    (try dsimp only at hSw)
    go_simp
    with_reducible rfl
  try simp only [List.getElem_toArray, List.getElem_cons_succ, List.getElem_cons_zero, Act.put, List.setIfInBounds_toArray, List.set_cons_zero, List.set_cons_succ]
  refine wpAnyH_ready (rs := [16]) (by kernel_rfl) (by simp) ?_
  refine AllReadyH.cons rfl (fun K hK => ?_) AllReadyH.nil
  go_simp
  ((with_reducible refine (HBY _).mono ?_); rintro e w7 ⟨v7, rfl, hO7, hb7⟩; obtain ⟨A7, k7, rfl, _, hat7⟩ := hO7.at_ (by have := HDL.out; omega); have hB7 : Below z6.heap.size z6 w7 := below_step hb7 (by first | assumption | (exact Below.drew (Below.refl _ _)) | (exact Below.drew (by assumption))); have s7 : (convert 48 9 (.slice A7 dd.length k7)).run Tryd.prog w7 = .ok (.string (strN dd)) w7 := run_str hat7 k7; have s7d : (convert 48 9 (.slice A7 dd.length k7)).run Tryd.prog w7.drew = .ok (.string (strN dd)) w7.drew := run_str (hat7.drewN 1) k7; clear hO7 hb7 hat7)
  refine hK.out _ _ ?_ (fun hHeld => ?_)
  · first | assumption | (exact Below.drew (by assumption))
  clear hK K
  try simp only [List.getElem_toArray, List.getElem_cons_succ, List.getElem_cons_zero, Act.put, List.setIfInBounds_toArray, List.set_cons_zero, List.set_cons_succ]
  refine wpAnyH_ready (rs := [17]) (by kernel_rfl) (by simp) ?_
  refine AllReadyH.cons rfl (fun K hK => ?_) AllReadyH.nil
  go_simp
  skip
  refine hK.out _ _ ?_ (fun hHeld => ?_)
  · first | assumption | (exact Below.drew (by assumption))
  clear hK K
  try simp only [List.getElem_toArray, List.getElem_cons_succ, List.getElem_cons_zero, Act.put, List.setIfInBounds_toArray, List.set_cons_zero, List.set_cons_succ]
  refine wpAnyH_take (i := 18) (oi := _) (v := ?_) rfl (by kernel_rfl) (by kernel_rfl) (by kernel_rfl) (fun _ _ _ h => h) (Or.inl ⟨by rfl, ?_⟩) (by assumption) ?_
  rotate_left
  · intro w hSw
    (try dsimp only at hSw)
    go_simp
    with_reducible rfl
  try simp only [List.getElem_toArray, List.getElem_cons_succ, List.getElem_cons_zero, Act.put, List.setIfInBounds_toArray, List.set_cons_zero, List.set_cons_succ]
  refine wpAnyH_take (i := 19) (oi := _) (v := ?_) rfl (by kernel_rfl) (by kernel_rfl) (by kernel_rfl) (fun _ _ _ h => h) (Or.inl ⟨by rfl, ?_⟩) (by assumption) ?_
  rotate_left
  · intro w hSw
    (try dsimp only at hSw)
    go_simp
    with_reducible rfl
  try simp only [List.getElem_toArray, List.getElem_cons_succ, List.getElem_cons_zero, Act.put, List.setIfInBounds_toArray, List.set_cons_zero, List.set_cons_succ]
  refine wpAnyH_take (i := 20) (oi := _) (v := ?_) rfl (by kernel_rfl) (by kernel_rfl) (by kernel_rfl) (fun _ _ _ h => h) (Or.inl ⟨by rfl, ?_⟩) (by assumption) ?_
  rotate_left
  · intro w hSw
    (try dsimp only at hSw)
    go_simp
    with_reducible rfl
  try simp only [List.getElem_toArray, List.getElem_cons_succ, List.getElem_cons_zero, Act.put, List.setIfInBounds_toArray, List.set_cons_zero, List.set_cons_succ]
  refine wpAnyH_take (i := 21) (oi := _) (v := ?_) rfl (by kernel_rfl) (by kernel_rfl) (by kernel_rfl) (fun _ _ _ h => h) (Or.inl ⟨by rfl, ?_⟩) (by assumption) ?_
  rotate_left
  · intro w hSw
    (try dsimp only at hSw)
    go_simp
    with_reducible rfl
  try simp only [List.getElem_toArray, List.getElem_cons_succ, List.getElem_cons_zero, Act.put, List.setIfInBounds_toArray, List.set_cons_zero, List.set_cons_succ]
  refine wpAnyH_take (i := 22) (oi := _) (v := ?_) rfl (by kernel_rfl) (by kernel_rfl) (by kernel_rfl) (fun _ _ _ h => h) (Or.inl ⟨by rfl, ?_⟩) (by assumption) ?_
  rotate_left
  · intro w hSw
    (try dsimp only at hSw)
    go_simp
    with_reducible rfl
  try simp only [List.getElem_toArray, List.getElem_cons_succ, List.getElem_cons_zero, Act.put, List.setIfInBounds_toArray, List.set_cons_zero, List.set_cons_succ]
  refine wpAnyH_take (i := 23) (oi := _) (v := ?_) rfl (by kernel_rfl) (by kernel_rfl) (by kernel_rfl) (fun _ _ _ h => h) (Or.inl ⟨by rfl, ?_⟩) (by assumption) ?_
  rotate_left
  · intro w hSw
    (try dsimp only at hSw)
    go_simp
    with_reducible rfl
  try simp only [List.getElem_toArray, List.getElem_cons_succ, List.getElem_cons_zero, Act.put, List.setIfInBounds_toArray, List.set_cons_zero, List.set_cons_succ]
  refine wpAnyH_take (i := 24) (oi := _) (v := ?_) rfl (by kernel_rfl) (by kernel_rfl) (by kernel_rfl) (fun _ _ _ h => h) (Or.inl ⟨by rfl, ?_⟩) (by assumption) ?_
  rotate_left
  · intro w hSw
    (try dsimp only at hSw)
    go_simp
    with_reducible rfl
  try simp only [List.getElem_toArray, List.getElem_cons_succ, List.getElem_cons_zero, Act.put, List.setIfInBounds_toArray, List.set_cons_zero, List.set_cons_succ]
  refine wpAnyH_take (i := 25) (oi := _) (v := ?_) rfl (by kernel_rfl) (by kernel_rfl) (by kernel_rfl) (fun _ _ _ h => h) (Or.inl ⟨by rfl, ?_⟩) (by assumption) ?_
  rotate_left
  · intro w hSw
    (try dsimp only at hSw)
    go_simp
    with_reducible rfl
  try simp only [List.getElem_toArray, List.getElem_cons_succ, List.getElem_cons_zero, Act.put, List.setIfInBounds_toArray, List.set_cons_zero, List.set_cons_succ]
  refine wpAnyH_take (i := 26) (oi := _) (v := ?_) rfl (by kernel_rfl) (by kernel_rfl) (by kernel_rfl) (fun _ _ _ h => h) (Or.inl ⟨by rfl, ?_⟩) (by assumption) ?_
  rotate_left
  · intro w hSw
    (try dsimp only at hSw)
    go_simp
    with_reducible rfl
  try simp only [List.getElem_toArray, List.getElem_cons_succ, List.getElem_cons_zero, Act.put, List.setIfInBounds_toArray, List.set_cons_zero, List.set_cons_succ]
  refine wpAnyH_take (i := 27) (oi := _) (v := ?_) rfl (by kernel_rfl) (by kernel_rfl) (by kernel_rfl) (fun _ _ _ h => h) (Or.inl ⟨by rfl, ?_⟩) (by assumption) ?_
  rotate_left
  · intro w hSw
    (try dsimp only at hSw)
    go_simp
    with_reducible rfl
  try simp only [List.getElem_toArray, List.getElem_cons_succ, List.getElem_cons_zero, Act.put, List.setIfInBounds_toArray, List.set_cons_zero, List.set_cons_succ]
  refine wpAnyH_take (i := 28) (oi := _) (v := ?_) rfl (by kernel_rfl) (by kernel_rfl) (by kernel_rfl) (fun _ _ _ h => h) (Or.inl ⟨by rfl, ?_⟩) (by assumption) ?_
  rotate_left
  · intro w hSw
    (try dsimp only at hSw)
    go_simp
    with_reducible rfl
  try simp only [List.getElem_toArray, List.getElem_cons_succ, List.getElem_cons_zero, Act.put, List.setIfInBounds_toArray, List.set_cons_zero, List.set_cons_succ]
  refine wpAnyH_take (i := 29) (oi := _) (v := ?_) rfl (by kernel_rfl) (by kernel_rfl) (by kernel_rfl) (fun _ _ _ h => h) (Or.inl ⟨by rfl, ?_⟩) (by assumption) ?_
  rotate_left
  · intro w hSw
    (try dsimp only at hSw)
    go_simp
    with_reducible rfl
  try simp only [List.getElem_toArray, List.getElem_cons_succ, List.getElem_cons_zero, Act.put, List.setIfInBounds_toArray, List.set_cons_zero, List.set_cons_succ]
  refine wpAnyH_done (by kernel_rfl) ?_ _
  refine NoPanic.normal ?_
  go_wp2_with fail
  go_ret
  exact ⟨rfl, BB.out.trans (Below.mono (by first | assumption | (exact Below.drew (by assumption)) | (exact Below.drew (Below.drew (by assumption)))) BB.out.size)⟩

set_option maxRecDepth 100000 in
set_option maxHeartbeats 8000000 in
theorem walk_true_0 (k : Nat) (hk : k < 18446744073709551616) (FA : Option Addr) (fn fc : Nat) (ff : Nat → Bool) (hfc : fn ≤ fc) (hmay : (Ent.mk 1 1 k 0 0 0).mayB = true) (GF : Nat → Nat) (lF : List Stm) (j : Nat) (s : Stm) (hrun : (sPrg 2 7 2 (1 : Int) 0 2000).run (Prd.wTell (sizeN 2 2) 1 fun j => decide (j < fn) && ff j) ((mkG 2 2 2 k, zerosS 2), 0) = .done 0 ((GF, lF), j)) (hj : j ≤ 20) (hls : lF[1]? = some s) (hgf : GF 20 < 18446744073709551616) (hhas : hasF (GF 20) (1 : Int) = false) (w : World) (HTab : Hid (Tab w)) (HFA : Hid (BlsAt w FA fn ff)) :
    Calls Tryd.prog 3 #[.int .u64 (k : Int), .bool true, .slice FA fn fc] w fun e w' => e = .returned (.bool true) ∧ Below w.heap.size w w' := by
  have HN : ∀ w, Calls Tryd.prog 8 #[.int .i64 2, .int .i64 2] w (NewWd w 2 2 (sizeN 2 2) (newF 2 2)) := fun w => newWd_at 2 2 (by decide) (by decide) (by decide) w
  have hsz : sizeN 2 2 ≤ 1000000 := by decide
  have hn : 20 < sizeN 2 2 := by decide
  have C1 : ∀ (A : Option Addr) (ka : Nat) (R : Option Addr) (ra : Nat) (S : Option Addr) (sa : Nat) (w : World), Hid (Tab w) → Hid (AtW w A (sizeN 2 2) (newF 2 2)) → Hid (StmsAt w R 2 (zerosS 2)) → Hid (StmsAt w S 2 (zerosS 2)) →
      Calls Tryd.prog 9 #[.agg #[.int .i64 2, .int .i64 2, .slice A (sizeN 2 2) ka, .int .u64 0, .slice R 2 ra, .slice S 2 sa], .int .i64 0, .agg #[.int .i64 20, .int .i64 2, .int .i64 0, .int .u64 (k : Int)], .int .i64 20, .slice none 0 0] w (AloneS w 2 2 A (sizeN 2 2) R S 2 (mkG 2 2 2 k) (zerosS 2) (zerosS 2) 0 false 1) := fun A ka R ra S sa w h0 h1 h2 h3 => aloneN 2 (by decide) 0 (by decide) 2 20 2 0 k hk ⟨fun _ => by decide, fun h => absurd h (by decide)⟩ 20 (by decide) (sizeN 2 2) hsz (by decide) (newF 2 2) (zerosS 2) (zerosS 2) 1 (mkG 2 2 2 k, zerosS 2) 7 (bv_make hk) (by decide) A ka R ra S sa w h0 h1 h2 h3
  have HMY : ∀ w, Calls Tryd.prog 10 #[.agg #[.int .i64 1, .int .u64 1, .int .u64 (k : Int), .int .u64 0, .int .u64 0, .int .u64 0]] w (Kept w (.bool true)) := fun w => by
    have h := refMay_any 1 1 k 0 0 0 hk w
    rw [hmay] at h
    exact h
  have C2 : ∀ (A : Option Addr) (ka : Nat) (R : Option Addr) (ra : Nat) (S : Option Addr) (sa : Nat) (w : World), Hid (Tab w) → Hid (BlsAt w FA fn ff) → Hid (AtW w A (sizeN 2 2) (mkG 2 2 2 k)) → Hid (StmsAt w R 2 (zerosS 2)) → Hid (StmsAt w S 2 (zerosS 2)) →
      Calls Tryd.prog 9 #[.agg #[.int .i64 2, .int .i64 2, .slice A (sizeN 2 2) ka, .int .u64 0, .slice R 2 ra, .slice S 2 sa], .int .i64 1, .agg #[.int .i64 7, .int .i64 2, .int .i64 1, .int .u64 0], .int .i64 20, .slice FA fn fc] w (AloneS w 2 2 A (sizeN 2 2) R S 2 GF lF (zerosS 2) 0 false 0) := fun A ka R ra S sa w h0 hF h1 h2 h3 => aloneF 2 (by decide) 1 (by decide) 2 7 2 1 0 (by decide) ⟨fun _ => by decide, fun _ => by decide⟩ 20 (by decide) (sizeN 2 2) hsz (by decide) (mkG 2 2 2 k) (zerosS 2) (zerosS 2) 0 (GF, lF) j FA fn fc ff hfc hrun hj A ka R ra S sa w h0 hF h1 h2 h3
  have HF : ∀ w, Calls Tryd.prog 12 #[.int .i64 2, .int .i64 2, .int .i64 2] w fun e w' => e = .returned (.int .i64 20) ∧ w = w' := fun w => refField_any 2 2 2 (by decide) (by decide) (by decide) (by decide) w
  have HH : ∀ w, Calls Tryd.prog 11 #[.int .u64 (GF 20 : Int), .int .i64 1] w fun e w' => e = .returned (.bool false) ∧ w = w' := fun w => by
    have h := refHas_any (GF 20) 1 hgf w
    rw [hhas] at h
    exact h
  have HLS := Lib.hid hls
  clear hrun hj hls hgf hhas
  clear hsz hmay hfc hk
  generalize sizeN 2 2 = n at *
  generalize mkG 2 2 2 k = G1 at *
  generalize newF 2 2 = G0 at *
  have i1 : (20 : Int) < (n : Int) := by omega
  have HN20 := Lib.hid hn
  clear hn
  go_enter Tryd.func3, Tryd.ntmps3
  go_wp2_with fail
  (with_reducible refine (savShown _ HTab).mono ?_)
  rintro e w1 ⟨rfl, hb⟩
  have BB := Lib.hid (Below.refl w.heap.size w)
  have HTabn := Tab.later HTab hb; clear HTab; have HTab := HTabn; clear HTabn
  have HFAn := Lib.hid (HFA.out.later hb); clear HFA; have HFA := HFAn; clear HFAn
  have BBn := Lib.hid (BB.out.trans (hb.mono BB.out.size)); clear BB; have BB := BBn; clear BBn
  clear hb
  go_wp2_with fail
  (with_reducible refine (HN _).mono ?_)
  clear HN
  rintro e w0 ⟨A0, ka0, R0, ra0, S0, sa0, rfl, ha, hs0, hs1, hb, _⟩
  go_upto_region 3 with fail
  have W0 := Lib.hid (WdAt.made0 (t := 2) (c := 2) (k := ka0) (r := 0) (ra := ra0) (sa := sa0) w0 33 ha hs0 hs1)
  have hbn := hb.trans ((al_below w0 (.cells #[.int .i64 2, .int .i64 2, .slice A0 n ka0, .int .u64 0, .slice R0 2 ra0, .slice S0 2 sa0] 33)).mono hb.size)
  clear ha hs0 hs1 hb
  generalize w0.alloc (.cells #[.int .i64 2, .int .i64 2, .slice A0 n ka0, .int .u64 0, .slice R0 2 ra0, .slice S0 2 sa0] 33) = x0 at W0 hbn ⊢
  generalize w0.heap.size = b0 at W0 ⊢
  have HTabn := Tab.later HTab hbn; clear HTab; have HTab := HTabn; clear HTabn
  have HFAn := Lib.hid (HFA.out.later hbn); clear HFA; have HFA := HFAn; clear HFAn
  have BBn := Lib.hid (BB.out.trans (hbn.mono BB.out.size)); clear BB; have BB := BBn; clear BBn
  clear hbn
  obtain ⟨c0, c1, c2, c3, c4, c5⟩ := W0.out.cells
  go_wp2_with fail
  (with_reducible refine (C1 A0 ka0 R0 ra0 S0 sa0 _ HTab W0.out.gA W0.out.g0 W0.out.g1).mono ?_)
  clear c0 c1 c2 c3 c4 c5 C1 W0
  rintro e w1 ⟨A1, ka1, R1, ra1, S1, sa1, rfl, ha, hs0, hs1, hb, hP⟩
  go_upto_region 4 with fail
  have hbx : Below w1.heap.size w1 ((w1.alloc (.cells #[.int .i64 2, .int .i64 2, .slice A1 n ka1, .int .u64 0, .slice R1 2 ra1, .slice S1 2 sa1] 33)).alloc (.cells #[.int .i64 0, .bool false, .int .i64 0, .int .u64 1, .slice none 0 0] 38)) := below_pair _ _ _
  have W1 := Lib.hid (WdAt.made (t := 2) (c := 2) (k := ka1) (r := 0) (ra := ra1) (sa := sa1) w1 (.cells #[.int .i64 0, .bool false, .int .i64 0, .int .u64 1, .slice none 0 0] 38) 33 ha hs0 hs1)
  have O1 := Lib.hid (VarAt.made1 w1 (.cells #[.int .i64 2, .int .i64 2, .slice A1 n ka1, .int .u64 0, .slice R1 2 ra1, .slice S1 2 sa1] 33) #[.int .i64 0, .bool false, .int .i64 0, .int .u64 1, .slice none 0 0] 38)
  have hbn := hb.trans (hbx.mono hb.size)
  generalize (w1.alloc (.cells #[.int .i64 2, .int .i64 2, .slice A1 n ka1, .int .u64 0, .slice R1 2 ra1, .slice S1 2 sa1] 33)).alloc (.cells #[.int .i64 0, .bool false, .int .i64 0, .int .u64 1, .slice none 0 0] 38) = x1 at hbx hbn W1 O1 ⊢
  clear ha hs0 hs1 hb hP hbx
  obtain ⟨b1, hb1⟩ : ∃ b, w1.heap.size = b := ⟨_, rfl⟩
  rw [hb1] at W1 O1 ⊢
  clear hb1
  have HTabn := Tab.later HTab hbn; clear HTab; have HTab := HTabn; clear HTabn
  have HFAn := Lib.hid (HFA.out.later hbn); clear HFA; have HFA := HFAn; clear HFAn
  have BBn := Lib.hid (BB.out.trans (hbn.mono BB.out.size)); clear BB; have BB := BBn; clear BBn
  clear hbn
  go_upto_region 9 with fail
  refine gen_at (P := fun W => Code.wp _ _ _ _ W) (fun z => Below x1.heap.size x1 z ∧ VarAt z x1.heap.size [.int .i64 1, .int .u64 1, .int .u64 (k : Int), .int .u64 0, .int .u64 0, .int .u64 0]) ⟨(by repeat (first | with_reducible assumption | with_reducible exact Below.refl _ _ | with_reducible refine Below.drew ?_ | with_reducible refine below_al ?_ | (with_reducible refine below_set1 (by omega) _ ?_))), VarAt.mk6 (by simp <;> omega) (by go_simp) (by go_simp) (by go_simp) (by go_simp) (by go_simp) (by go_simp) (by go_simp) (by go_simp) (by go_simp) (by go_simp) (by go_simp) (by go_simp)⟩ ?_
  rintro z ⟨hbz, hE⟩
  have HE := Lib.hid hE
  obtain ⟨be, hbe⟩ : ∃ b, x1.heap.size = b := ⟨_, rfl⟩
  rw [hbe] at HE ⊢
  clear hE hbe
  have HTabn := Tab.later HTab hbz; clear HTab; have HTab := HTabn; clear HTabn
  have HFAn := Lib.hid (HFA.out.later hbz); clear HFA; have HFA := HFAn; clear HFAn
  have W1n := Lib.hid (W1.out.later hbz); clear W1; have W1 := W1n; clear W1n
  have O1n := Lib.hid (O1.out.below hbz); clear O1; have O1 := O1n; clear O1n
  have BBn := Lib.hid (BB.out.trans (hbz.mono BB.out.size)); clear BB; have BB := BBn; clear BBn
  clear hbz
  obtain ⟨_, ⟨o0, o1, o2, o3, o4⟩, _⟩ := O1.out.five
  obtain ⟨_, ⟨e0, e1, e2, e3, e4, e5⟩, _⟩ := HE.out.six
  go_wp2_with fail
  (with_reducible refine (HMY _).mono ?_)
  clear HMY
  rintro e w3 ⟨rfl, hb3⟩
  clear o0 o1 o2 o3 o4 e0 e1 e2 e3 e4 e5
  have HTabn := Tab.later HTab hb3; clear HTab; have HTab := HTabn; clear HTabn
  have HFAn := Lib.hid (HFA.out.later hb3); clear HFA; have HFA := HFAn; clear HFAn
  have W1n := Lib.hid (W1.out.later hb3); clear W1; have W1 := W1n; clear W1n
  have O1n := Lib.hid (O1.out.below hb3); clear O1; have O1 := O1n; clear O1n
  have HEn := Lib.hid (HE.out.below hb3); clear HE; have HE := HEn; clear HEn
  have BBn := Lib.hid (BB.out.trans (hb3.mono BB.out.size)); clear BB; have BB := BBn; clear BBn
  clear hb3
  obtain ⟨c0, c1, c2, c3, c4, c5⟩ := W1.out.cells
  go_wp2_with fail
  (with_reducible refine (C2 A1 ka1 R1 ra1 S1 sa1 _ HTab HFA W1.out.gA W1.out.g0 W1.out.g1).mono ?_)
  clear c0 c1 c2 c3 c4 c5 C2 O1
  rintro e w2 ⟨A2, ka2, R2, ra2, S2, sa2, rfl, ha, hs0, hs1, hb, hP⟩
  go_upto_region 12 with fail
  have hbx : Below w2.heap.size w2 ((w2.alloc (.cells #[.int .i64 2, .int .i64 2, .slice A2 n ka2, .int .u64 0, .slice R2 2 ra2, .slice S2 2 sa2] 33)).alloc (.cells #[.int .i64 0, .bool false, .int .i64 0, .int .u64 0, .slice none 0 0] 38)) := below_pair _ _ _
  have W2 := Lib.hid (WdAt.made (t := 2) (c := 2) (k := ka2) (r := 0) (ra := ra2) (sa := sa2) w2 (.cells #[.int .i64 0, .bool false, .int .i64 0, .int .u64 0, .slice none 0 0] 38) 33 ha hs0 hs1)
  have O2 := Lib.hid (VarAt.made1 w2 (.cells #[.int .i64 2, .int .i64 2, .slice A2 n ka2, .int .u64 0, .slice R2 2 ra2, .slice S2 2 sa2] 33) #[.int .i64 0, .bool false, .int .i64 0, .int .u64 0, .slice none 0 0] 38)
  have hbn := hb.trans (hbx.mono hb.size)
  generalize (w2.alloc (.cells #[.int .i64 2, .int .i64 2, .slice A2 n ka2, .int .u64 0, .slice R2 2 ra2, .slice S2 2 sa2] 33)).alloc (.cells #[.int .i64 0, .bool false, .int .i64 0, .int .u64 0, .slice none 0 0] 38) = x2 at hbx hbn W2 O2 ⊢
  clear ha hs0 hs1 hb hP hbx
  obtain ⟨b2, hb2⟩ : ∃ b, w2.heap.size = b := ⟨_, rfl⟩
  rw [hb2] at W2 O2 ⊢
  clear hb2
  have W1n := Lib.hid (W1.out.later hbn); clear W1; have W1 := W1n; clear W1n
  have HEn := Lib.hid (HE.out.below hbn); clear HE; have HE := HEn; clear HEn
  have BBn := Lib.hid (BB.out.trans (hbn.mono BB.out.size)); clear BB; have BB := BBn; clear BBn
  clear hbn
  obtain ⟨_, _, c2, _, c4, _⟩ := W2.out.cells
  obtain ⟨_, _, d2, _, _, _⟩ := W1.out.cells
  go_upto_region 14 with fail
  clear d2 c4
  obtain ⟨gw, fw, rfl, hgw, hcw⟩ := W2.out.2.1.2 (by have := HN20.out; omega)
  have w20 := hcw 20 HN20.out
  clear hcw hgw
  go_quiet (first | (go_at_call 12; with_reducible exact quiet_call (HF _)) | (go_at_call 11; with_reducible exact quiet_call (HH _)))
  clear c2 w20
  have hbq : Below x2.heap.size x2 (x2.drewN nq) := below_draw (Below.refl _ _) _
  generalize x2.drewN nq = x5 at hbq ⊢
  have W2n := Lib.hid (W2.out.later hbq); clear W2; have W2 := W2n; clear W2n
  have O2n := Lib.hid (O2.out.below hbq); clear O2; have O2 := O2n; clear O2n
  have HEn := Lib.hid (HE.out.below hbq); clear HE; have HE := HEn; clear HEn
  have BBn := Lib.hid (BB.out.trans (hbq.mono BB.out.size)); clear BB; have BB := BBn; clear BBn
  clear hbq W1
  obtain ⟨g2, f2, rfl, hg2, hc2⟩ := W2.out.2.2.1.2.2 (by decide)
  obtain ⟨_, _, _, _, c4, _⟩ := W2.out.cells
  obtain ⟨D2, q2, z20, z21, z22, z23, z24, z25⟩ := hc2 1 _ HLS.out
  try dsimp only at z20 z21 z22 z23 z24 z25
  rw [show f2 + 1 * 2 = f2 + 2 by omega] at z20 z24
  skip
  have HAT := Lib.hid z23
  clear hc2 z22 z23 z25
  go_upto_region 16 with fail
  refine gen_at (P := fun W => Code.wp _ _ _ _ W) (fun z => Below x5.heap.size x5 z ∧ VarAt z x5.heap.size [.slice D2 s.bytes.length q2, .int .i64 s.synced]) ⟨al_below _ _, VarAt.made _ _ _⟩ ?_
  rintro z6 ⟨hbz, hE⟩
  have HS := Lib.hid hE
  obtain ⟨bs, hbs⟩ : ∃ b, x5.heap.size = b := ⟨_, rfl⟩
  have HAT6 := Lib.hid (HAT.out.below hbz (Nat.le_refl _))
  rw [hbs] at HS ⊢
  clear hE hbs z20 z21 z24 c4 hg2 HAT
  have O2n := Lib.hid (O2.out.below hbz); clear O2; have O2 := O2n; clear O2n
  have HEn := Lib.hid (HE.out.below hbz); clear HE; have HE := HEn; clear HEn
  have BBn := Lib.hid (BB.out.trans (hbz.mono BB.out.size)); clear BB; have BB := BBn; clear BBn
  clear hbz W2
  obtain ⟨_, ⟨o0, o1, o2, o3, o4⟩, _⟩ := O2.out.five
  go_quiet (fail)
  go_wp2_with fail
  go_ret
  exact ⟨rfl, below_draw BB.out _⟩

set_option maxRecDepth 100000 in
set_option maxHeartbeats 8000000 in
theorem walk_false_1 (k : Nat) (hk : k < 18446744073709551616) (FA : Option Addr) (fn fc : Nat) (ff : Nat → Bool) (hfc : fn ≤ fc) (hmay : (Ent.mk 2 1 0 0 0 0).mayB = true) (GF : Nat → Nat) (lF : List Stm) (j : Nat) (s : Stm) (hrun : (sPrg 2 7 2 (2 : Int) 0 2000).run (Prd.wTell (sizeN 2 2) 1 fun j => decide (j < fn) && ff j) ((mkG 2 2 2 k, zerosS 2), 0) = .done 1 ((GF, lF), j)) (hj : j ≤ 20) (hls : lF[1]? = some s) (hgf : GF 20 < 18446744073709551616) (hhas : hasF (GF 20) (2 : Int) = true) (hs : s = ⟨dataN (Ent.mk 2 1 0 0 0 0), ((dataN (Ent.mk 2 1 0 0 0 0)).length : Int)⟩) (w : World) (HTab : Hid (Tab w)) (HFA : Hid (BlsAt w FA fn ff)) :
    Calls Tryd.prog 3 #[.int .u64 (k : Int), .bool false, .slice FA fn fc] w fun e w' => e = .returned (.bool true) ∧ Below w.heap.size w w' := by
  have HN : ∀ w, Calls Tryd.prog 8 #[.int .i64 2, .int .i64 2] w (NewWd w 2 2 (sizeN 2 2) (newF 2 2)) := fun w => newWd_at 2 2 (by decide) (by decide) (by decide) w
  have hsz : sizeN 2 2 ≤ 1000000 := by decide
  have hn : 20 < sizeN 2 2 := by decide
  have C1 : ∀ (A : Option Addr) (ka : Nat) (R : Option Addr) (ra : Nat) (S : Option Addr) (sa : Nat) (w : World), Hid (Tab w) → Hid (AtW w A (sizeN 2 2) (newF 2 2)) → Hid (StmsAt w R 2 (zerosS 2)) → Hid (StmsAt w S 2 (zerosS 2)) →
      Calls Tryd.prog 9 #[.agg #[.int .i64 2, .int .i64 2, .slice A (sizeN 2 2) ka, .int .u64 0, .slice R 2 ra, .slice S 2 sa], .int .i64 0, .agg #[.int .i64 20, .int .i64 2, .int .i64 0, .int .u64 (k : Int)], .int .i64 20, .slice none 0 0] w (AloneS w 2 2 A (sizeN 2 2) R S 2 (mkG 2 2 2 k) (zerosS 2) (zerosS 2) 0 false 1) := fun A ka R ra S sa w h0 h1 h2 h3 => aloneN 2 (by decide) 0 (by decide) 2 20 2 0 k hk ⟨fun _ => by decide, fun h => absurd h (by decide)⟩ 20 (by decide) (sizeN 2 2) hsz (by decide) (newF 2 2) (zerosS 2) (zerosS 2) 1 (mkG 2 2 2 k, zerosS 2) 7 (bv_make hk) (by decide) A ka R ra S sa w h0 h1 h2 h3
  have HMY : ∀ w, Calls Tryd.prog 10 #[.agg #[.int .i64 2, .int .u64 1, .int .u64 0, .int .u64 0, .int .u64 0, .int .u64 0]] w (Kept w (.bool true)) := fun w => by
    have h := refMay_any 2 1 0 0 0 0 (by decide) w
    rw [hmay] at h
    exact h
  have C2 : ∀ (A : Option Addr) (ka : Nat) (R : Option Addr) (ra : Nat) (S : Option Addr) (sa : Nat) (w : World), Hid (Tab w) → Hid (BlsAt w FA fn ff) → Hid (AtW w A (sizeN 2 2) (mkG 2 2 2 k)) → Hid (StmsAt w R 2 (zerosS 2)) → Hid (StmsAt w S 2 (zerosS 2)) →
      Calls Tryd.prog 9 #[.agg #[.int .i64 2, .int .i64 2, .slice A (sizeN 2 2) ka, .int .u64 0, .slice R 2 ra, .slice S 2 sa], .int .i64 1, .agg #[.int .i64 7, .int .i64 2, .int .i64 2, .int .u64 0], .int .i64 20, .slice FA fn fc] w (AloneS w 2 2 A (sizeN 2 2) R S 2 GF lF (zerosS 2) 0 true 0) := fun A ka R ra S sa w h0 hF h1 h2 h3 => aloneF 2 (by decide) 1 (by decide) 2 7 2 2 0 (by decide) ⟨fun _ => by decide, fun _ => by decide⟩ 20 (by decide) (sizeN 2 2) hsz (by decide) (mkG 2 2 2 k) (zerosS 2) (zerosS 2) 1 (GF, lF) j FA fn fc ff hfc hrun hj A ka R ra S sa w h0 hF h1 h2 h3
  have HF : ∀ w, Calls Tryd.prog 12 #[.int .i64 2, .int .i64 2, .int .i64 2] w fun e w' => e = .returned (.int .i64 20) ∧ w = w' := fun w => refField_any 2 2 2 (by decide) (by decide) (by decide) (by decide) w
  have HH : ∀ w, Calls Tryd.prog 11 #[.int .u64 (GF 20 : Int), .int .i64 2] w fun e w' => e = .returned (.bool true) ∧ w = w' := fun w => by
    have h := refHas_any (GF 20) 2 hgf w
    rw [hhas] at h
    exact h
  have HBY : ∀ w, Calls Tryd.prog 13 #[.agg #[.int .i64 2, .int .u64 1, .int .u64 0, .int .u64 0, .int .u64 0, .int .u64 0]] w (DataPost w (dataN (Ent.mk 2 1 0 0 0 0))) := fun w => rBytes_any 2 1 0 0 0 0 ⟨show 1 < 18446744073709551616 by decide, show 0 < 18446744073709551616 by decide, show 0 < 18446744073709551616 by decide, show 0 < 18446744073709551616 by decide, show 0 < 18446744073709551616 by decide⟩ w
  have hdl := data_len (Ent.mk 2 1 0 0 0 0)
  obtain ⟨nd, hnd⟩ : ∃ m, (dataN (Ent.mk 2 1 0 0 0 0)).length = m := ⟨_, rfl⟩
  generalize dataN (Ent.mk 2 1 0 0 0 0) = dd at *
  subst hs
  have HDL := Lib.hid hdl
  have HND := Lib.hid hnd
  clear hdl hnd
  have HLS := Lib.hid hls
  clear hrun hj hls hgf hhas
  clear hsz hmay hfc hk
  generalize sizeN 2 2 = n at *
  generalize mkG 2 2 2 k = G1 at *
  generalize newF 2 2 = G0 at *
  have i1 : (20 : Int) < (n : Int) := by omega
  have HN20 := Lib.hid hn
  clear hn
  go_enter Tryd.func3, Tryd.ntmps3
  go_wp2_with fail
  (with_reducible refine (savShown _ HTab).mono ?_)
  rintro e w1 ⟨rfl, hb⟩
  have BB := Lib.hid (Below.refl w.heap.size w)
  have HTabn := Tab.later HTab hb; clear HTab; have HTab := HTabn; clear HTabn
  have HFAn := Lib.hid (HFA.out.later hb); clear HFA; have HFA := HFAn; clear HFAn
  have BBn := Lib.hid (BB.out.trans (hb.mono BB.out.size)); clear BB; have BB := BBn; clear BBn
  clear hb
  go_wp2_with fail
  (with_reducible refine (HN _).mono ?_)
  clear HN
  rintro e w0 ⟨A0, ka0, R0, ra0, S0, sa0, rfl, ha, hs0, hs1, hb, _⟩
  go_upto_region 3 with fail
  have W0 := Lib.hid (WdAt.made0 (t := 2) (c := 2) (k := ka0) (r := 0) (ra := ra0) (sa := sa0) w0 33 ha hs0 hs1)
  have hbn := hb.trans ((al_below w0 (.cells #[.int .i64 2, .int .i64 2, .slice A0 n ka0, .int .u64 0, .slice R0 2 ra0, .slice S0 2 sa0] 33)).mono hb.size)
  clear ha hs0 hs1 hb
  generalize w0.alloc (.cells #[.int .i64 2, .int .i64 2, .slice A0 n ka0, .int .u64 0, .slice R0 2 ra0, .slice S0 2 sa0] 33) = x0 at W0 hbn ⊢
  generalize w0.heap.size = b0 at W0 ⊢
  have HTabn := Tab.later HTab hbn; clear HTab; have HTab := HTabn; clear HTabn
  have HFAn := Lib.hid (HFA.out.later hbn); clear HFA; have HFA := HFAn; clear HFAn
  have BBn := Lib.hid (BB.out.trans (hbn.mono BB.out.size)); clear BB; have BB := BBn; clear BBn
  clear hbn
  obtain ⟨c0, c1, c2, c3, c4, c5⟩ := W0.out.cells
  go_wp2_with fail
  (with_reducible refine (C1 A0 ka0 R0 ra0 S0 sa0 _ HTab W0.out.gA W0.out.g0 W0.out.g1).mono ?_)
  clear c0 c1 c2 c3 c4 c5 C1 W0
  rintro e w1 ⟨A1, ka1, R1, ra1, S1, sa1, rfl, ha, hs0, hs1, hb, hP⟩
  go_upto_region 4 with fail
  have hbx : Below w1.heap.size w1 ((w1.alloc (.cells #[.int .i64 2, .int .i64 2, .slice A1 n ka1, .int .u64 0, .slice R1 2 ra1, .slice S1 2 sa1] 33)).alloc (.cells #[.int .i64 0, .bool false, .int .i64 0, .int .u64 1, .slice none 0 0] 38)) := below_pair _ _ _
  have W1 := Lib.hid (WdAt.made (t := 2) (c := 2) (k := ka1) (r := 0) (ra := ra1) (sa := sa1) w1 (.cells #[.int .i64 0, .bool false, .int .i64 0, .int .u64 1, .slice none 0 0] 38) 33 ha hs0 hs1)
  have O1 := Lib.hid (VarAt.made1 w1 (.cells #[.int .i64 2, .int .i64 2, .slice A1 n ka1, .int .u64 0, .slice R1 2 ra1, .slice S1 2 sa1] 33) #[.int .i64 0, .bool false, .int .i64 0, .int .u64 1, .slice none 0 0] 38)
  have hbn := hb.trans (hbx.mono hb.size)
  generalize (w1.alloc (.cells #[.int .i64 2, .int .i64 2, .slice A1 n ka1, .int .u64 0, .slice R1 2 ra1, .slice S1 2 sa1] 33)).alloc (.cells #[.int .i64 0, .bool false, .int .i64 0, .int .u64 1, .slice none 0 0] 38) = x1 at hbx hbn W1 O1 ⊢
  clear ha hs0 hs1 hb hP hbx
  obtain ⟨b1, hb1⟩ : ∃ b, w1.heap.size = b := ⟨_, rfl⟩
  rw [hb1] at W1 O1 ⊢
  clear hb1
  have HTabn := Tab.later HTab hbn; clear HTab; have HTab := HTabn; clear HTabn
  have HFAn := Lib.hid (HFA.out.later hbn); clear HFA; have HFA := HFAn; clear HFAn
  have BBn := Lib.hid (BB.out.trans (hbn.mono BB.out.size)); clear BB; have BB := BBn; clear BBn
  clear hbn
  go_upto_region 9 with fail
  refine gen_at (P := fun W => Code.wp _ _ _ _ W) (fun z => Below x1.heap.size x1 z ∧ VarAt z x1.heap.size [.int .i64 2, .int .u64 1, .int .u64 0, .int .u64 0, .int .u64 0, .int .u64 0]) ⟨(by repeat (first | with_reducible assumption | with_reducible exact Below.refl _ _ | with_reducible refine Below.drew ?_ | with_reducible refine below_al ?_ | (with_reducible refine below_set1 (by omega) _ ?_))), VarAt.mk6 (by simp <;> omega) (by go_simp) (by go_simp) (by go_simp) (by go_simp) (by go_simp) (by go_simp) (by go_simp) (by go_simp) (by go_simp) (by go_simp) (by go_simp) (by go_simp)⟩ ?_
  rintro z ⟨hbz, hE⟩
  have HE := Lib.hid hE
  obtain ⟨be, hbe⟩ : ∃ b, x1.heap.size = b := ⟨_, rfl⟩
  rw [hbe] at HE ⊢
  clear hE hbe
  have HTabn := Tab.later HTab hbz; clear HTab; have HTab := HTabn; clear HTabn
  have HFAn := Lib.hid (HFA.out.later hbz); clear HFA; have HFA := HFAn; clear HFAn
  have W1n := Lib.hid (W1.out.later hbz); clear W1; have W1 := W1n; clear W1n
  have O1n := Lib.hid (O1.out.below hbz); clear O1; have O1 := O1n; clear O1n
  have BBn := Lib.hid (BB.out.trans (hbz.mono BB.out.size)); clear BB; have BB := BBn; clear BBn
  clear hbz
  obtain ⟨_, ⟨o0, o1, o2, o3, o4⟩, _⟩ := O1.out.five
  obtain ⟨_, ⟨e0, e1, e2, e3, e4, e5⟩, _⟩ := HE.out.six
  go_wp2_with fail
  (with_reducible refine (HMY _).mono ?_)
  clear HMY
  rintro e w3 ⟨rfl, hb3⟩
  clear o0 o1 o2 o3 o4 e0 e1 e2 e3 e4 e5
  have HTabn := Tab.later HTab hb3; clear HTab; have HTab := HTabn; clear HTabn
  have HFAn := Lib.hid (HFA.out.later hb3); clear HFA; have HFA := HFAn; clear HFAn
  have W1n := Lib.hid (W1.out.later hb3); clear W1; have W1 := W1n; clear W1n
  have O1n := Lib.hid (O1.out.below hb3); clear O1; have O1 := O1n; clear O1n
  have HEn := Lib.hid (HE.out.below hb3); clear HE; have HE := HEn; clear HEn
  have BBn := Lib.hid (BB.out.trans (hb3.mono BB.out.size)); clear BB; have BB := BBn; clear BBn
  clear hb3
  obtain ⟨c0, c1, c2, c3, c4, c5⟩ := W1.out.cells
  go_wp2_with fail
  (with_reducible refine (C2 A1 ka1 R1 ra1 S1 sa1 _ HTab HFA W1.out.gA W1.out.g0 W1.out.g1).mono ?_)
  clear c0 c1 c2 c3 c4 c5 C2 O1
  rintro e w2 ⟨A2, ka2, R2, ra2, S2, sa2, rfl, ha, hs0, hs1, hb, hP⟩
  go_upto_region 12 with fail
  have hbx : Below w2.heap.size w2 ((w2.alloc (.cells #[.int .i64 2, .int .i64 2, .slice A2 n ka2, .int .u64 0, .slice R2 2 ra2, .slice S2 2 sa2] 33)).alloc (.cells #[.int .i64 0, .bool true, .int .i64 0, .int .u64 0, .slice none 0 0] 38)) := below_pair _ _ _
  have W2 := Lib.hid (WdAt.made (t := 2) (c := 2) (k := ka2) (r := 0) (ra := ra2) (sa := sa2) w2 (.cells #[.int .i64 0, .bool true, .int .i64 0, .int .u64 0, .slice none 0 0] 38) 33 ha hs0 hs1)
  have O2 := Lib.hid (VarAt.made1 w2 (.cells #[.int .i64 2, .int .i64 2, .slice A2 n ka2, .int .u64 0, .slice R2 2 ra2, .slice S2 2 sa2] 33) #[.int .i64 0, .bool true, .int .i64 0, .int .u64 0, .slice none 0 0] 38)
  have hbn := hb.trans (hbx.mono hb.size)
  generalize (w2.alloc (.cells #[.int .i64 2, .int .i64 2, .slice A2 n ka2, .int .u64 0, .slice R2 2 ra2, .slice S2 2 sa2] 33)).alloc (.cells #[.int .i64 0, .bool true, .int .i64 0, .int .u64 0, .slice none 0 0] 38) = x2 at hbx hbn W2 O2 ⊢
  clear ha hs0 hs1 hb hP hbx
  obtain ⟨b2, hb2⟩ : ∃ b, w2.heap.size = b := ⟨_, rfl⟩
  rw [hb2] at W2 O2 ⊢
  clear hb2
  have W1n := Lib.hid (W1.out.later hbn); clear W1; have W1 := W1n; clear W1n
  have HEn := Lib.hid (HE.out.below hbn); clear HE; have HE := HEn; clear HEn
  have BBn := Lib.hid (BB.out.trans (hbn.mono BB.out.size)); clear BB; have BB := BBn; clear BBn
  clear hbn
  obtain ⟨_, _, c2, _, c4, _⟩ := W2.out.cells
  obtain ⟨_, _, d2, _, _, _⟩ := W1.out.cells
  go_upto_region 14 with fail
  clear d2 c4
  obtain ⟨gw, fw, rfl, hgw, hcw⟩ := W2.out.2.1.2 (by have := HN20.out; omega)
  have w20 := hcw 20 HN20.out
  clear hcw hgw
  go_quiet (first | (go_at_call 12; with_reducible exact quiet_call (HF _)) | (go_at_call 11; with_reducible exact quiet_call (HH _)))
  clear c2 w20
  have hbq : Below x2.heap.size x2 (x2.drewN nq) := below_draw (Below.refl _ _) _
  generalize x2.drewN nq = x5 at hbq ⊢
  have W2n := Lib.hid (W2.out.later hbq); clear W2; have W2 := W2n; clear W2n
  have O2n := Lib.hid (O2.out.below hbq); clear O2; have O2 := O2n; clear O2n
  have HEn := Lib.hid (HE.out.below hbq); clear HE; have HE := HEn; clear HEn
  have BBn := Lib.hid (BB.out.trans (hbq.mono BB.out.size)); clear BB; have BB := BBn; clear BBn
  clear hbq W1
  obtain ⟨g2, f2, rfl, hg2, hc2⟩ := W2.out.2.2.1.2.2 (by decide)
  obtain ⟨_, _, _, _, c4, _⟩ := W2.out.cells
  obtain ⟨D2, q2, z20, z21, z22, z23, z24, z25⟩ := hc2 1 _ HLS.out
  try dsimp only at z20 z21 z22 z23 z24 z25
  rw [show f2 + 1 * 2 = f2 + 2 by omega] at z20 z24
  rw [HND.out] at z20 z21 z23 z24
  have HAT := Lib.hid z23
  clear hc2 z22 z23 z25
  go_upto_region 16 with fail
  refine gen_at (P := fun W => Code.wp _ _ _ _ W) (fun z => Below x5.heap.size x5 z ∧ VarAt z x5.heap.size [.slice D2 nd q2, .int .i64 (nd : Int)]) ⟨al_below _ _, VarAt.made _ _ _⟩ ?_
  rintro z6 ⟨hbz, hE⟩
  have HS := Lib.hid hE
  obtain ⟨bs, hbs⟩ : ∃ b, x5.heap.size = b := ⟨_, rfl⟩
  have HAT6 := Lib.hid (HAT.out.below hbz (Nat.le_refl _))
  rw [hbs] at HS ⊢
  clear hE hbs z20 z21 z24 c4 hg2 HAT
  have O2n := Lib.hid (O2.out.below hbz); clear O2; have O2 := O2n; clear O2n
  have HEn := Lib.hid (HE.out.below hbz); clear HE; have HE := HEn; clear HEn
  have BBn := Lib.hid (BB.out.trans (hbz.mono BB.out.size)); clear BB; have BB := BBn; clear BBn
  clear hbz W2
  have hC1 : ∀ w', Below z6.heap.size z6 w' → w'.cell? ⟨b2 + 1, 1, none⟩ = some (.bool true) := fun w' hb => (O2.out.below hb).five.2.1.2.1
  have hE0 : ∀ w', Below z6.heap.size z6 w' → w'.cell? ⟨be, 0, none⟩ = some (.int .i64 2) := fun w' hb => (HE.out.below hb).2.1 0 _ rfl
  have hE1 : ∀ w', Below z6.heap.size z6 w' → w'.cell? ⟨be, 1, none⟩ = some (.int .u64 1) := fun w' hb => (HE.out.below hb).2.1 1 _ rfl
  have hE2 : ∀ w', Below z6.heap.size z6 w' → w'.cell? ⟨be, 2, none⟩ = some (.int .u64 0) := fun w' hb => (HE.out.below hb).2.1 2 _ rfl
  have hE3 : ∀ w', Below z6.heap.size z6 w' → w'.cell? ⟨be, 3, none⟩ = some (.int .u64 0) := fun w' hb => (HE.out.below hb).2.1 3 _ rfl
  have hE4 : ∀ w', Below z6.heap.size z6 w' → w'.cell? ⟨be, 4, none⟩ = some (.int .u64 0) := fun w' hb => (HE.out.below hb).2.1 4 _ rfl
  have hE5 : ∀ w', Below z6.heap.size z6 w' → w'.cell? ⟨be, 5, none⟩ = some (.int .u64 0) := fun w' hb => (HE.out.below hb).2.1 5 _ rfl
  have hS0 : ∀ w', Below z6.heap.size z6 w' → w'.cell? ⟨bs, 0, none⟩ = some (.slice D2 nd q2) := fun w' hb => (HS.out.below hb).two.2.1
  have hS1 : ∀ w', Below z6.heap.size z6 w' → w'.cell? ⟨bs, 1, none⟩ = some (.int .i64 (nd : Int)) := fun w' hb => (HS.out.below hb).two.2.2.1
  have s1 : ∀ w', Below z6.heap.size z6 w' → (convert 48 9 (.slice D2 nd q2)).run Tryd.prog w' = .ok (.string (strN dd)) w' := fun w' hb => run_str (AtB.later HAT6 hb) q2
  have hB0 : Below z6.heap.size z6 z6 := Below.refl _ _
  have HZ := Lib.hid hB0
  refine wp_region_noPanic ?_
  refine wp_region_held_drew (S := fun w' => Below z6.heap.size z6 w') (by kernel_rfl) (Below.drew (Below.refl _ _)) (fun hHeld => ?_)
  refine wpAnyH_take (i := 0) (oi := _) (v := ?_) rfl (by kernel_rfl) (by kernel_rfl) (by kernel_rfl) (fun _ _ _ h => h) (Or.inl ⟨by rfl, ?_⟩) (by assumption) ?_
  rotate_left
  · intro w hSw
    (try dsimp only at hSw)
    go_simp
    with_reducible rfl
  try simp only [List.getElem_toArray, List.getElem_cons_zero, Act.put, List.setIfInBounds_toArray, List.set_cons_zero, List.set_cons_succ]
  refine wpAnyH_take (i := 1) (oi := _) (v := ?_) rfl (by kernel_rfl) (by kernel_rfl) (by kernel_rfl) (fun _ _ _ h => h) (Or.inl ⟨by rfl, ?_⟩) (by assumption) ?_
  rotate_left
  · intro w hSw
    (try dsimp only at hSw)
    go_simp
    with_reducible rfl
  try simp only [List.getElem_toArray, List.getElem_cons_succ, List.getElem_cons_zero, Act.put, List.setIfInBounds_toArray, List.set_cons_zero, List.set_cons_succ]
  refine wpAnyH_take (i := 2) (oi := _) (v := ?_) rfl (by kernel_rfl) (by kernel_rfl) (by kernel_rfl) (fun _ _ _ h => h) (Or.inl ⟨by rfl, ?_⟩) (by assumption) ?_
  rotate_left
  · intro w hSw
    (try dsimp only at hSw)
    go_simp
    with_reducible rfl
  try simp only [List.getElem_toArray, List.getElem_cons_succ, List.getElem_cons_zero, Act.put, List.setIfInBounds_toArray, List.set_cons_zero, List.set_cons_succ]
  refine wpAnyH_take (i := 3) (oi := _) (v := ?_) rfl (by kernel_rfl) (by kernel_rfl) (by kernel_rfl) (fun _ _ _ h => h) (Or.inl ⟨by rfl, ?_⟩) (by assumption) ?_
  rotate_left
  · intro w hSw
    (try dsimp only at hSw)
    go_simp
    with_reducible rfl
  try simp only [List.getElem_toArray, List.getElem_cons_succ, List.getElem_cons_zero, Act.put, List.setIfInBounds_toArray, List.set_cons_zero, List.set_cons_succ]
  refine wpAnyH_take (i := 4) (oi := _) (v := ?_) rfl (by kernel_rfl) (by kernel_rfl) (by kernel_rfl) (fun _ _ _ h => h) (Or.inl ⟨by rfl, ?_⟩) (by assumption) ?_
  rotate_left
  · intro w hSw
    (try dsimp only at hSw)
    go_simp
    with_reducible rfl
  try simp only [List.getElem_toArray, List.getElem_cons_succ, List.getElem_cons_zero, Act.put, List.setIfInBounds_toArray, List.set_cons_zero, List.set_cons_succ]
  refine wpAnyH_take (i := 5) (oi := _) (v := ?_) rfl (by kernel_rfl) (by kernel_rfl) (by kernel_rfl) (fun _ _ _ h => h) (Or.inl ⟨by rfl, ?_⟩) (by assumption) ?_
  rotate_left
  · intro w hSw
    (try dsimp only at hSw)
    go_simp
    with_reducible rfl
  try simp only [List.getElem_toArray, List.getElem_cons_succ, List.getElem_cons_zero, Act.put, List.setIfInBounds_toArray, List.set_cons_zero, List.set_cons_succ]
  refine wpAnyH_take (i := 6) (oi := _) (v := ?_) rfl (by kernel_rfl) (by kernel_rfl) (by kernel_rfl) (fun _ _ _ h => h) (Or.inl ⟨by rfl, ?_⟩) (by assumption) ?_
  rotate_left
  · intro w hSw
    (try dsimp only at hSw)
    go_simp
    with_reducible rfl
  try simp only [List.getElem_toArray, List.getElem_cons_succ, List.getElem_cons_zero, Act.put, List.setIfInBounds_toArray, List.set_cons_zero, List.set_cons_succ]
  refine wpAnyH_take (i := 7) (oi := _) (v := ?_) rfl (by kernel_rfl) (by kernel_rfl) (by kernel_rfl) (fun _ _ _ h => h) (Or.inl ⟨by rfl, ?_⟩) (by assumption) ?_
  rotate_left
  · intro w hSw
    (try dsimp only at hSw)
    go_simp
    with_reducible rfl
  try simp only [List.getElem_toArray, List.getElem_cons_succ, List.getElem_cons_zero, Act.put, List.setIfInBounds_toArray, List.set_cons_zero, List.set_cons_succ]
  refine wpAnyH_take (i := 8) (oi := _) (v := ?_) rfl (by kernel_rfl) (by kernel_rfl) (by kernel_rfl) (fun _ _ _ h => h) (Or.inl ⟨by rfl, ?_⟩) (by assumption) ?_
  rotate_left
  · intro w hSw
    (try dsimp only at hSw)
    go_simp
    with_reducible rfl
  try simp only [List.getElem_toArray, List.getElem_cons_succ, List.getElem_cons_zero, Act.put, List.setIfInBounds_toArray, List.set_cons_zero, List.set_cons_succ]
  refine wpAnyH_take (i := 9) (oi := _) (v := ?_) rfl (by kernel_rfl) (by kernel_rfl) (by kernel_rfl) (fun _ _ _ h => h) (Or.inl ⟨by rfl, ?_⟩) (by assumption) ?_
  rotate_left
  · intro w hSw
    (try dsimp only at hSw)
    go_simp
    with_reducible rfl
  try simp only [List.getElem_toArray, List.getElem_cons_succ, List.getElem_cons_zero, Act.put, List.setIfInBounds_toArray, List.set_cons_zero, List.set_cons_succ]
  refine wpAnyH_take (i := 10) (oi := _) (v := ?_) rfl (by kernel_rfl) (by kernel_rfl) (by kernel_rfl) (fun _ _ _ h => h) (Or.inl ⟨by rfl, ?_⟩) (by assumption) ?_
  rotate_left
  · intro w hSw
    (try dsimp only at hSw)
    go_simp
    with_reducible rfl
  try simp only [List.getElem_toArray, List.getElem_cons_succ, List.getElem_cons_zero, Act.put, List.setIfInBounds_toArray, List.set_cons_zero, List.set_cons_succ]
  refine wpAnyH_take (i := 11) (oi := _) (v := ?_) rfl (by kernel_rfl) (by kernel_rfl) (by kernel_rfl) (fun _ _ _ h => h) (Or.inl ⟨by rfl, ?_⟩) (by assumption) ?_
  rotate_left
  · intro w hSw
    (try dsimp only at hSw)
    go_simp
    with_reducible rfl
  try simp only [List.getElem_toArray, List.getElem_cons_succ, List.getElem_cons_zero, Act.put, List.setIfInBounds_toArray, List.set_cons_zero, List.set_cons_succ]
  refine wpAnyH_take (i := 12) (oi := _) (v := ?_) rfl (by kernel_rfl) (by kernel_rfl) (by kernel_rfl) (fun _ _ _ h => h) (Or.inl ⟨by rfl, ?_⟩) (by assumption) ?_
  rotate_left
  · intro w hSw
    (try dsimp only at hSw)
    go_simp
    with_reducible rfl
  try simp only [List.getElem_toArray, List.getElem_cons_succ, List.getElem_cons_zero, Act.put, List.setIfInBounds_toArray, List.set_cons_zero, List.set_cons_succ]
  refine wpAnyH_take (i := 13) (oi := _) (v := ?_) rfl (by kernel_rfl) (by kernel_rfl) (by kernel_rfl) (fun _ _ _ h => h) (Or.inl ⟨by rfl, ?_⟩) (by assumption) ?_
  rotate_left
  · intro w hSw
    (try dsimp only at hSw)
    go_simp
    with_reducible rfl
  try simp only [List.getElem_toArray, List.getElem_cons_succ, List.getElem_cons_zero, Act.put, List.setIfInBounds_toArray, List.set_cons_zero, List.set_cons_succ]
  refine wpAnyH_take (i := 14) (oi := _) (v := ?_) rfl (by kernel_rfl) (by kernel_rfl) (by kernel_rfl) (fun _ _ _ h => h) (Or.inl ⟨by rfl, ?_⟩) (by assumption) ?_
  rotate_left
  · intro w hSw
    (try dsimp only at hSw)
    go_simp
    with_reducible rfl
  try simp only [List.getElem_toArray, List.getElem_cons_succ, List.getElem_cons_zero, Act.put, List.setIfInBounds_toArray, List.set_cons_zero, List.set_cons_succ]
  refine wpAnyH_take (i := 15) (oi := _) (v := ?_) rfl (by kernel_rfl) (by kernel_rfl) (by kernel_rfl) (fun _ _ _ h => h) (Or.inl ⟨by rfl, ?_⟩) (by assumption) ?_
  rotate_left
  · intro w hSw
    (try dsimp only at hSw)
    go_simp
    with_reducible rfl
  try simp only [List.getElem_toArray, List.getElem_cons_succ, List.getElem_cons_zero, Act.put, List.setIfInBounds_toArray, List.set_cons_zero, List.set_cons_succ]
  refine wpAnyH_ready (rs := [16]) (by kernel_rfl) (by simp) ?_
  refine AllReadyH.cons rfl (fun K hK => ?_) AllReadyH.nil
  go_simp
  ((with_reducible refine (HBY _).mono ?_); rintro e w7 ⟨v7, rfl, hO7, hb7⟩; obtain ⟨A7, k7, rfl, _, hat7⟩ := hO7.at_ (by have := HDL.out; omega); have hB7 : Below z6.heap.size z6 w7 := below_step hb7 (by first | assumption | (exact Below.drew (Below.refl _ _)) | (exact Below.drew (by assumption))); have s7 : (convert 48 9 (.slice A7 dd.length k7)).run Tryd.prog w7 = .ok (.string (strN dd)) w7 := run_str hat7 k7; have s7d : (convert 48 9 (.slice A7 dd.length k7)).run Tryd.prog w7.drew = .ok (.string (strN dd)) w7.drew := run_str (hat7.drewN 1) k7; clear hO7 hb7 hat7)
  refine hK.out _ _ ?_ (fun hHeld => ?_)
  · first | assumption | (exact Below.drew (by assumption))
  clear hK K
  try simp only [List.getElem_toArray, List.getElem_cons_succ, List.getElem_cons_zero, Act.put, List.setIfInBounds_toArray, List.set_cons_zero, List.set_cons_succ]
  refine wpAnyH_ready (rs := [17]) (by kernel_rfl) (by simp) ?_
  refine AllReadyH.cons rfl (fun K hK => ?_) AllReadyH.nil
  go_simp
  skip
  refine hK.out _ _ ?_ (fun hHeld => ?_)
  · first | assumption | (exact Below.drew (by assumption))
  clear hK K
  try simp only [List.getElem_toArray, List.getElem_cons_succ, List.getElem_cons_zero, Act.put, List.setIfInBounds_toArray, List.set_cons_zero, List.set_cons_succ]
  refine wpAnyH_take (i := 18) (oi := _) (v := ?_) rfl (by kernel_rfl) (by kernel_rfl) (by kernel_rfl) (fun _ _ _ h => h) (Or.inl ⟨by rfl, ?_⟩) (by assumption) ?_
  rotate_left
  · intro w hSw
    (try dsimp only at hSw)
    go_simp
    with_reducible rfl
  try simp only [List.getElem_toArray, List.getElem_cons_succ, List.getElem_cons_zero, Act.put, List.setIfInBounds_toArray, List.set_cons_zero, List.set_cons_succ]
  refine wpAnyH_take (i := 19) (oi := _) (v := ?_) rfl (by kernel_rfl) (by kernel_rfl) (by kernel_rfl) (fun _ _ _ h => h) (Or.inl ⟨by rfl, ?_⟩) (by assumption) ?_
  rotate_left
  · intro w hSw
    (try dsimp only at hSw)
    go_simp
    with_reducible rfl
  try simp only [List.getElem_toArray, List.getElem_cons_succ, List.getElem_cons_zero, Act.put, List.setIfInBounds_toArray, List.set_cons_zero, List.set_cons_succ]
  refine wpAnyH_take (i := 20) (oi := _) (v := ?_) rfl (by kernel_rfl) (by kernel_rfl) (by kernel_rfl) (fun _ _ _ h => h) (Or.inl ⟨by rfl, ?_⟩) (by assumption) ?_
  rotate_left
  · intro w hSw
    (try dsimp only at hSw)
    go_simp
    with_reducible rfl
  try simp only [List.getElem_toArray, List.getElem_cons_succ, List.getElem_cons_zero, Act.put, List.setIfInBounds_toArray, List.set_cons_zero, List.set_cons_succ]
  refine wpAnyH_take (i := 21) (oi := _) (v := ?_) rfl (by kernel_rfl) (by kernel_rfl) (by kernel_rfl) (fun _ _ _ h => h) (Or.inl ⟨by rfl, ?_⟩) (by assumption) ?_
  rotate_left
  · intro w hSw
    (try dsimp only at hSw)
    go_simp
    with_reducible rfl
  try simp only [List.getElem_toArray, List.getElem_cons_succ, List.getElem_cons_zero, Act.put, List.setIfInBounds_toArray, List.set_cons_zero, List.set_cons_succ]
  refine wpAnyH_take (i := 22) (oi := _) (v := ?_) rfl (by kernel_rfl) (by kernel_rfl) (by kernel_rfl) (fun _ _ _ h => h) (Or.inl ⟨by rfl, ?_⟩) (by assumption) ?_
  rotate_left
  · intro w hSw
    (try dsimp only at hSw)
    go_simp
    with_reducible rfl
  try simp only [List.getElem_toArray, List.getElem_cons_succ, List.getElem_cons_zero, Act.put, List.setIfInBounds_toArray, List.set_cons_zero, List.set_cons_succ]
  refine wpAnyH_take (i := 23) (oi := _) (v := ?_) rfl (by kernel_rfl) (by kernel_rfl) (by kernel_rfl) (fun _ _ _ h => h) (Or.inl ⟨by rfl, ?_⟩) (by assumption) ?_
  rotate_left
  · intro w hSw
    (try dsimp only at hSw)
    go_simp
    with_reducible rfl
  try simp only [List.getElem_toArray, List.getElem_cons_succ, List.getElem_cons_zero, Act.put, List.setIfInBounds_toArray, List.set_cons_zero, List.set_cons_succ]
  refine wpAnyH_take (i := 24) (oi := _) (v := ?_) rfl (by kernel_rfl) (by kernel_rfl) (by kernel_rfl) (fun _ _ _ h => h) (Or.inl ⟨by rfl, ?_⟩) (by assumption) ?_
  rotate_left
  · intro w hSw
    (try dsimp only at hSw)
    go_simp
    with_reducible rfl
  try simp only [List.getElem_toArray, List.getElem_cons_succ, List.getElem_cons_zero, Act.put, List.setIfInBounds_toArray, List.set_cons_zero, List.set_cons_succ]
  refine wpAnyH_take (i := 25) (oi := _) (v := ?_) rfl (by kernel_rfl) (by kernel_rfl) (by kernel_rfl) (fun _ _ _ h => h) (Or.inl ⟨by rfl, ?_⟩) (by assumption) ?_
  rotate_left
  · intro w hSw
    (try dsimp only at hSw)
    go_simp
    with_reducible rfl
  try simp only [List.getElem_toArray, List.getElem_cons_succ, List.getElem_cons_zero, Act.put, List.setIfInBounds_toArray, List.set_cons_zero, List.set_cons_succ]
  refine wpAnyH_take (i := 26) (oi := _) (v := ?_) rfl (by kernel_rfl) (by kernel_rfl) (by kernel_rfl) (fun _ _ _ h => h) (Or.inl ⟨by rfl, ?_⟩) (by assumption) ?_
  rotate_left
  · intro w hSw
    (try dsimp only at hSw)
    go_simp
    with_reducible rfl
  try simp only [List.getElem_toArray, List.getElem_cons_succ, List.getElem_cons_zero, Act.put, List.setIfInBounds_toArray, List.set_cons_zero, List.set_cons_succ]
  refine wpAnyH_take (i := 27) (oi := _) (v := ?_) rfl (by kernel_rfl) (by kernel_rfl) (by kernel_rfl) (fun _ _ _ h => h) (Or.inl ⟨by rfl, ?_⟩) (by assumption) ?_
  rotate_left
  · intro w hSw
    (try dsimp only at hSw)
    go_simp
    with_reducible rfl
  try simp only [List.getElem_toArray, List.getElem_cons_succ, List.getElem_cons_zero, Act.put, List.setIfInBounds_toArray, List.set_cons_zero, List.set_cons_succ]
  refine wpAnyH_take (i := 28) (oi := _) (v := ?_) rfl (by kernel_rfl) (by kernel_rfl) (by kernel_rfl) (fun _ _ _ h => h) (Or.inl ⟨by rfl, ?_⟩) (by assumption) ?_
  rotate_left
  · intro w hSw
    (try dsimp only at hSw)
    go_simp
    with_reducible rfl
  try simp only [List.getElem_toArray, List.getElem_cons_succ, List.getElem_cons_zero, Act.put, List.setIfInBounds_toArray, List.set_cons_zero, List.set_cons_succ]
  refine wpAnyH_take (i := 29) (oi := _) (v := ?_) rfl (by kernel_rfl) (by kernel_rfl) (by kernel_rfl) (fun _ _ _ h => h) (Or.inl ⟨by rfl, ?_⟩) (by assumption) ?_
  rotate_left
  · intro w hSw
    (try dsimp only at hSw)
    go_simp
    with_reducible rfl
  try simp only [List.getElem_toArray, List.getElem_cons_succ, List.getElem_cons_zero, Act.put, List.setIfInBounds_toArray, List.set_cons_zero, List.set_cons_succ]
  refine wpAnyH_done (by kernel_rfl) ?_ _
  refine NoPanic.normal ?_
  go_wp2_with fail
  go_ret
  exact ⟨rfl, BB.out.trans (Below.mono (by first | assumption | (exact Below.drew (by assumption)) | (exact Below.drew (Below.drew (by assumption)))) BB.out.size)⟩

set_option maxRecDepth 100000 in
set_option maxHeartbeats 8000000 in
theorem walk_false_0 (k : Nat) (hk : k < 18446744073709551616) (FA : Option Addr) (fn fc : Nat) (ff : Nat → Bool) (hfc : fn ≤ fc) (hmay : (Ent.mk 2 1 0 0 0 0).mayB = true) (GF : Nat → Nat) (lF : List Stm) (j : Nat) (s : Stm) (hrun : (sPrg 2 7 2 (2 : Int) 0 2000).run (Prd.wTell (sizeN 2 2) 1 fun j => decide (j < fn) && ff j) ((mkG 2 2 2 k, zerosS 2), 0) = .done 0 ((GF, lF), j)) (hj : j ≤ 20) (hls : lF[1]? = some s) (hgf : GF 20 < 18446744073709551616) (hhas : hasF (GF 20) (2 : Int) = false) (w : World) (HTab : Hid (Tab w)) (HFA : Hid (BlsAt w FA fn ff)) :
    Calls Tryd.prog 3 #[.int .u64 (k : Int), .bool false, .slice FA fn fc] w fun e w' => e = .returned (.bool true) ∧ Below w.heap.size w w' := by
  have HN : ∀ w, Calls Tryd.prog 8 #[.int .i64 2, .int .i64 2] w (NewWd w 2 2 (sizeN 2 2) (newF 2 2)) := fun w => newWd_at 2 2 (by decide) (by decide) (by decide) w
  have hsz : sizeN 2 2 ≤ 1000000 := by decide
  have hn : 20 < sizeN 2 2 := by decide
  have C1 : ∀ (A : Option Addr) (ka : Nat) (R : Option Addr) (ra : Nat) (S : Option Addr) (sa : Nat) (w : World), Hid (Tab w) → Hid (AtW w A (sizeN 2 2) (newF 2 2)) → Hid (StmsAt w R 2 (zerosS 2)) → Hid (StmsAt w S 2 (zerosS 2)) →
      Calls Tryd.prog 9 #[.agg #[.int .i64 2, .int .i64 2, .slice A (sizeN 2 2) ka, .int .u64 0, .slice R 2 ra, .slice S 2 sa], .int .i64 0, .agg #[.int .i64 20, .int .i64 2, .int .i64 0, .int .u64 (k : Int)], .int .i64 20, .slice none 0 0] w (AloneS w 2 2 A (sizeN 2 2) R S 2 (mkG 2 2 2 k) (zerosS 2) (zerosS 2) 0 false 1) := fun A ka R ra S sa w h0 h1 h2 h3 => aloneN 2 (by decide) 0 (by decide) 2 20 2 0 k hk ⟨fun _ => by decide, fun h => absurd h (by decide)⟩ 20 (by decide) (sizeN 2 2) hsz (by decide) (newF 2 2) (zerosS 2) (zerosS 2) 1 (mkG 2 2 2 k, zerosS 2) 7 (bv_make hk) (by decide) A ka R ra S sa w h0 h1 h2 h3
  have HMY : ∀ w, Calls Tryd.prog 10 #[.agg #[.int .i64 2, .int .u64 1, .int .u64 0, .int .u64 0, .int .u64 0, .int .u64 0]] w (Kept w (.bool true)) := fun w => by
    have h := refMay_any 2 1 0 0 0 0 (by decide) w
    rw [hmay] at h
    exact h
  have C2 : ∀ (A : Option Addr) (ka : Nat) (R : Option Addr) (ra : Nat) (S : Option Addr) (sa : Nat) (w : World), Hid (Tab w) → Hid (BlsAt w FA fn ff) → Hid (AtW w A (sizeN 2 2) (mkG 2 2 2 k)) → Hid (StmsAt w R 2 (zerosS 2)) → Hid (StmsAt w S 2 (zerosS 2)) →
      Calls Tryd.prog 9 #[.agg #[.int .i64 2, .int .i64 2, .slice A (sizeN 2 2) ka, .int .u64 0, .slice R 2 ra, .slice S 2 sa], .int .i64 1, .agg #[.int .i64 7, .int .i64 2, .int .i64 2, .int .u64 0], .int .i64 20, .slice FA fn fc] w (AloneS w 2 2 A (sizeN 2 2) R S 2 GF lF (zerosS 2) 0 false 0) := fun A ka R ra S sa w h0 hF h1 h2 h3 => aloneF 2 (by decide) 1 (by decide) 2 7 2 2 0 (by decide) ⟨fun _ => by decide, fun _ => by decide⟩ 20 (by decide) (sizeN 2 2) hsz (by decide) (mkG 2 2 2 k) (zerosS 2) (zerosS 2) 0 (GF, lF) j FA fn fc ff hfc hrun hj A ka R ra S sa w h0 hF h1 h2 h3
  have HF : ∀ w, Calls Tryd.prog 12 #[.int .i64 2, .int .i64 2, .int .i64 2] w fun e w' => e = .returned (.int .i64 20) ∧ w = w' := fun w => refField_any 2 2 2 (by decide) (by decide) (by decide) (by decide) w
  have HH : ∀ w, Calls Tryd.prog 11 #[.int .u64 (GF 20 : Int), .int .i64 2] w fun e w' => e = .returned (.bool false) ∧ w = w' := fun w => by
    have h := refHas_any (GF 20) 2 hgf w
    rw [hhas] at h
    exact h
  have HLS := Lib.hid hls
  clear hrun hj hls hgf hhas
  clear hsz hmay hfc hk
  generalize sizeN 2 2 = n at *
  generalize mkG 2 2 2 k = G1 at *
  generalize newF 2 2 = G0 at *
  have i1 : (20 : Int) < (n : Int) := by omega
  have HN20 := Lib.hid hn
  clear hn
  go_enter Tryd.func3, Tryd.ntmps3
  go_wp2_with fail
  (with_reducible refine (savShown _ HTab).mono ?_)
  rintro e w1 ⟨rfl, hb⟩
  have BB := Lib.hid (Below.refl w.heap.size w)
  have HTabn := Tab.later HTab hb; clear HTab; have HTab := HTabn; clear HTabn
  have HFAn := Lib.hid (HFA.out.later hb); clear HFA; have HFA := HFAn; clear HFAn
  have BBn := Lib.hid (BB.out.trans (hb.mono BB.out.size)); clear BB; have BB := BBn; clear BBn
  clear hb
  go_wp2_with fail
  (with_reducible refine (HN _).mono ?_)
  clear HN
  rintro e w0 ⟨A0, ka0, R0, ra0, S0, sa0, rfl, ha, hs0, hs1, hb, _⟩
  go_upto_region 3 with fail
  have W0 := Lib.hid (WdAt.made0 (t := 2) (c := 2) (k := ka0) (r := 0) (ra := ra0) (sa := sa0) w0 33 ha hs0 hs1)
  have hbn := hb.trans ((al_below w0 (.cells #[.int .i64 2, .int .i64 2, .slice A0 n ka0, .int .u64 0, .slice R0 2 ra0, .slice S0 2 sa0] 33)).mono hb.size)
  clear ha hs0 hs1 hb
  generalize w0.alloc (.cells #[.int .i64 2, .int .i64 2, .slice A0 n ka0, .int .u64 0, .slice R0 2 ra0, .slice S0 2 sa0] 33) = x0 at W0 hbn ⊢
  generalize w0.heap.size = b0 at W0 ⊢
  have HTabn := Tab.later HTab hbn; clear HTab; have HTab := HTabn; clear HTabn
  have HFAn := Lib.hid (HFA.out.later hbn); clear HFA; have HFA := HFAn; clear HFAn
  have BBn := Lib.hid (BB.out.trans (hbn.mono BB.out.size)); clear BB; have BB := BBn; clear BBn
  clear hbn
  obtain ⟨c0, c1, c2, c3, c4, c5⟩ := W0.out.cells
  go_wp2_with fail
  (with_reducible refine (C1 A0 ka0 R0 ra0 S0 sa0 _ HTab W0.out.gA W0.out.g0 W0.out.g1).mono ?_)
  clear c0 c1 c2 c3 c4 c5 C1 W0
  rintro e w1 ⟨A1, ka1, R1, ra1, S1, sa1, rfl, ha, hs0, hs1, hb, hP⟩
  go_upto_region 4 with fail
  have hbx : Below w1.heap.size w1 ((w1.alloc (.cells #[.int .i64 2, .int .i64 2, .slice A1 n ka1, .int .u64 0, .slice R1 2 ra1, .slice S1 2 sa1] 33)).alloc (.cells #[.int .i64 0, .bool false, .int .i64 0, .int .u64 1, .slice none 0 0] 38)) := below_pair _ _ _
  have W1 := Lib.hid (WdAt.made (t := 2) (c := 2) (k := ka1) (r := 0) (ra := ra1) (sa := sa1) w1 (.cells #[.int .i64 0, .bool false, .int .i64 0, .int .u64 1, .slice none 0 0] 38) 33 ha hs0 hs1)
  have O1 := Lib.hid (VarAt.made1 w1 (.cells #[.int .i64 2, .int .i64 2, .slice A1 n ka1, .int .u64 0, .slice R1 2 ra1, .slice S1 2 sa1] 33) #[.int .i64 0, .bool false, .int .i64 0, .int .u64 1, .slice none 0 0] 38)
  have hbn := hb.trans (hbx.mono hb.size)
  generalize (w1.alloc (.cells #[.int .i64 2, .int .i64 2, .slice A1 n ka1, .int .u64 0, .slice R1 2 ra1, .slice S1 2 sa1] 33)).alloc (.cells #[.int .i64 0, .bool false, .int .i64 0, .int .u64 1, .slice none 0 0] 38) = x1 at hbx hbn W1 O1 ⊢
  clear ha hs0 hs1 hb hP hbx
  obtain ⟨b1, hb1⟩ : ∃ b, w1.heap.size = b := ⟨_, rfl⟩
  rw [hb1] at W1 O1 ⊢
  clear hb1
  have HTabn := Tab.later HTab hbn; clear HTab; have HTab := HTabn; clear HTabn
  have HFAn := Lib.hid (HFA.out.later hbn); clear HFA; have HFA := HFAn; clear HFAn
  have BBn := Lib.hid (BB.out.trans (hbn.mono BB.out.size)); clear BB; have BB := BBn; clear BBn
  clear hbn
  go_upto_region 9 with fail
  refine gen_at (P := fun W => Code.wp _ _ _ _ W) (fun z => Below x1.heap.size x1 z ∧ VarAt z x1.heap.size [.int .i64 2, .int .u64 1, .int .u64 0, .int .u64 0, .int .u64 0, .int .u64 0]) ⟨(by repeat (first | with_reducible assumption | with_reducible exact Below.refl _ _ | with_reducible refine Below.drew ?_ | with_reducible refine below_al ?_ | (with_reducible refine below_set1 (by omega) _ ?_))), VarAt.mk6 (by simp <;> omega) (by go_simp) (by go_simp) (by go_simp) (by go_simp) (by go_simp) (by go_simp) (by go_simp) (by go_simp) (by go_simp) (by go_simp) (by go_simp) (by go_simp)⟩ ?_
  rintro z ⟨hbz, hE⟩
  have HE := Lib.hid hE
  obtain ⟨be, hbe⟩ : ∃ b, x1.heap.size = b := ⟨_, rfl⟩
  rw [hbe] at HE ⊢
  clear hE hbe
  have HTabn := Tab.later HTab hbz; clear HTab; have HTab := HTabn; clear HTabn
  have HFAn := Lib.hid (HFA.out.later hbz); clear HFA; have HFA := HFAn; clear HFAn
  have W1n := Lib.hid (W1.out.later hbz); clear W1; have W1 := W1n; clear W1n
  have O1n := Lib.hid (O1.out.below hbz); clear O1; have O1 := O1n; clear O1n
  have BBn := Lib.hid (BB.out.trans (hbz.mono BB.out.size)); clear BB; have BB := BBn; clear BBn
  clear hbz
  obtain ⟨_, ⟨o0, o1, o2, o3, o4⟩, _⟩ := O1.out.five
  obtain ⟨_, ⟨e0, e1, e2, e3, e4, e5⟩, _⟩ := HE.out.six
  go_wp2_with fail
  (with_reducible refine (HMY _).mono ?_)
  clear HMY
  rintro e w3 ⟨rfl, hb3⟩
  clear o0 o1 o2 o3 o4 e0 e1 e2 e3 e4 e5
  have HTabn := Tab.later HTab hb3; clear HTab; have HTab := HTabn; clear HTabn
  have HFAn := Lib.hid (HFA.out.later hb3); clear HFA; have HFA := HFAn; clear HFAn
  have W1n := Lib.hid (W1.out.later hb3); clear W1; have W1 := W1n; clear W1n
  have O1n := Lib.hid (O1.out.below hb3); clear O1; have O1 := O1n; clear O1n
  have HEn := Lib.hid (HE.out.below hb3); clear HE; have HE := HEn; clear HEn
  have BBn := Lib.hid (BB.out.trans (hb3.mono BB.out.size)); clear BB; have BB := BBn; clear BBn
  clear hb3
  obtain ⟨c0, c1, c2, c3, c4, c5⟩ := W1.out.cells
  go_wp2_with fail
  (with_reducible refine (C2 A1 ka1 R1 ra1 S1 sa1 _ HTab HFA W1.out.gA W1.out.g0 W1.out.g1).mono ?_)
  clear c0 c1 c2 c3 c4 c5 C2 O1
  rintro e w2 ⟨A2, ka2, R2, ra2, S2, sa2, rfl, ha, hs0, hs1, hb, hP⟩
  go_upto_region 12 with fail
  have hbx : Below w2.heap.size w2 ((w2.alloc (.cells #[.int .i64 2, .int .i64 2, .slice A2 n ka2, .int .u64 0, .slice R2 2 ra2, .slice S2 2 sa2] 33)).alloc (.cells #[.int .i64 0, .bool false, .int .i64 0, .int .u64 0, .slice none 0 0] 38)) := below_pair _ _ _
  have W2 := Lib.hid (WdAt.made (t := 2) (c := 2) (k := ka2) (r := 0) (ra := ra2) (sa := sa2) w2 (.cells #[.int .i64 0, .bool false, .int .i64 0, .int .u64 0, .slice none 0 0] 38) 33 ha hs0 hs1)
  have O2 := Lib.hid (VarAt.made1 w2 (.cells #[.int .i64 2, .int .i64 2, .slice A2 n ka2, .int .u64 0, .slice R2 2 ra2, .slice S2 2 sa2] 33) #[.int .i64 0, .bool false, .int .i64 0, .int .u64 0, .slice none 0 0] 38)
  have hbn := hb.trans (hbx.mono hb.size)
  generalize (w2.alloc (.cells #[.int .i64 2, .int .i64 2, .slice A2 n ka2, .int .u64 0, .slice R2 2 ra2, .slice S2 2 sa2] 33)).alloc (.cells #[.int .i64 0, .bool false, .int .i64 0, .int .u64 0, .slice none 0 0] 38) = x2 at hbx hbn W2 O2 ⊢
  clear ha hs0 hs1 hb hP hbx
  obtain ⟨b2, hb2⟩ : ∃ b, w2.heap.size = b := ⟨_, rfl⟩
  rw [hb2] at W2 O2 ⊢
  clear hb2
  have W1n := Lib.hid (W1.out.later hbn); clear W1; have W1 := W1n; clear W1n
  have HEn := Lib.hid (HE.out.below hbn); clear HE; have HE := HEn; clear HEn
  have BBn := Lib.hid (BB.out.trans (hbn.mono BB.out.size)); clear BB; have BB := BBn; clear BBn
  clear hbn
  obtain ⟨_, _, c2, _, c4, _⟩ := W2.out.cells
  obtain ⟨_, _, d2, _, _, _⟩ := W1.out.cells
  go_upto_region 14 with fail
  clear d2 c4
  obtain ⟨gw, fw, rfl, hgw, hcw⟩ := W2.out.2.1.2 (by have := HN20.out; omega)
  have w20 := hcw 20 HN20.out
  clear hcw hgw
  go_quiet (first | (go_at_call 12; with_reducible exact quiet_call (HF _)) | (go_at_call 11; with_reducible exact quiet_call (HH _)))
  clear c2 w20
  have hbq : Below x2.heap.size x2 (x2.drewN nq) := below_draw (Below.refl _ _) _
  generalize x2.drewN nq = x5 at hbq ⊢
  have W2n := Lib.hid (W2.out.later hbq); clear W2; have W2 := W2n; clear W2n
  have O2n := Lib.hid (O2.out.below hbq); clear O2; have O2 := O2n; clear O2n
  have HEn := Lib.hid (HE.out.below hbq); clear HE; have HE := HEn; clear HEn
  have BBn := Lib.hid (BB.out.trans (hbq.mono BB.out.size)); clear BB; have BB := BBn; clear BBn
  clear hbq W1
  obtain ⟨g2, f2, rfl, hg2, hc2⟩ := W2.out.2.2.1.2.2 (by decide)
  obtain ⟨_, _, _, _, c4, _⟩ := W2.out.cells
  obtain ⟨D2, q2, z20, z21, z22, z23, z24, z25⟩ := hc2 1 _ HLS.out
  try dsimp only at z20 z21 z22 z23 z24 z25
  rw [show f2 + 1 * 2 = f2 + 2 by omega] at z20 z24
  skip
  have HAT := Lib.hid z23
  clear hc2 z22 z23 z25
  go_upto_region 16 with fail
  refine gen_at (P := fun W => Code.wp _ _ _ _ W) (fun z => Below x5.heap.size x5 z ∧ VarAt z x5.heap.size [.slice D2 s.bytes.length q2, .int .i64 s.synced]) ⟨al_below _ _, VarAt.made _ _ _⟩ ?_
  rintro z6 ⟨hbz, hE⟩
  have HS := Lib.hid hE
  obtain ⟨bs, hbs⟩ : ∃ b, x5.heap.size = b := ⟨_, rfl⟩
  have HAT6 := Lib.hid (HAT.out.below hbz (Nat.le_refl _))
  rw [hbs] at HS ⊢
  clear hE hbs z20 z21 z24 c4 hg2 HAT
  have O2n := Lib.hid (O2.out.below hbz); clear O2; have O2 := O2n; clear O2n
  have HEn := Lib.hid (HE.out.below hbz); clear HE; have HE := HEn; clear HEn
  have BBn := Lib.hid (BB.out.trans (hbz.mono BB.out.size)); clear BB; have BB := BBn; clear BBn
  clear hbz W2
  obtain ⟨_, ⟨o0, o1, o2, o3, o4⟩, _⟩ := O2.out.five
  go_quiet (fail)
  go_wp2_with fail
  go_ret
  exact ⟨rfl, below_draw BB.out _⟩
section
set_option maxRecDepth 100000
set_option maxHeartbeats 2000000
variable {H : Type} {enc : TypeId × Value → H} {w : World}
theorem open_k {v : Value} {d : DataW H} {ps : List MemPlace} {base : Nat} (hval : Value.okWide Tryd.prog w .any base 22 v) (h : DataW.Trod enc Tryd.prog w 0 (fun _ => true) true 22 v d ps) (hs : Sized Tryd.prog 22 d) (hlt : ∀ z ∈ ps, z.block < w.heap.size) :
    ∃ (k : Nat), v = .int .u64 (k : Int) ∧ k < 18446744073709551616 := by
  obtain ⟨a0, rfl⟩ := okWide_int Tryd.underlying22 hval
  obtain ⟨fuel, hf0⟩ := h
  have hf : DataW.trod enc Tryd.prog w 0 (fun _ => true) true fuel 22 [.int .u64 a0] = some (d, ps) := hf0
  obtain ⟨k, e0, hk⟩ := leaf_u64 Tryd.underlying22 hf
  cases e0
  exact ⟨_, rfl, hk⟩
theorem open_b {v : Value} {d : DataW H} {ps : List MemPlace} {base : Nat} (hval : Value.okWide Tryd.prog w .any base 4 v) (h : DataW.Trod enc Tryd.prog w 0 (fun _ => true) true 4 v d ps) (hs : Sized Tryd.prog 4 d) (hlt : ∀ z ∈ ps, z.block < w.heap.size) :
    ∃ (b : Bool), v = .bool b := by
  obtain ⟨a0, rfl⟩ := okWide_bool Tryd.underlying4 hval
  obtain ⟨fuel, hf0⟩ := h
  have hf : DataW.trod enc Tryd.prog w 0 (fun _ => true) true fuel 4 [.bool a0] = some (d, ps) := hf0
  obtain ⟨b, e0⟩ := leaf_bool Tryd.underlying4 hf
  cases e0
  exact ⟨_, rfl⟩
theorem open_f {v : Value} {d : DataW H} {ps : List MemPlace} {base : Nat} (hval : Value.okWide Tryd.prog w .any base 23 v) (h : DataW.Trod enc Tryd.prog w 0 (fun _ => true) true 23 v d ps) (hs : Sized Tryd.prog 23 d) (hlt : ∀ z ∈ ps, z.block < w.heap.size) :
    ∃ (fA : Option Addr) (fL fC : Nat) (ff : Nat → Bool), v = .slice fA fL fC ∧ (fL ≤ fC ∧ BlsAt w fA fL ff) := by
  obtain ⟨a0, len, cap, rfl⟩ := okWide_slice Tryd.underlying23 hval
  obtain ⟨fuel, hf0⟩ := h
  have hf : DataW.trod enc Tryd.prog w 0 (fun _ => true) true fuel 23 [.slice a0 len cap] = some (d, ps) := hf0
  obtain ⟨fA, fL, fC, ff, e0, hf⟩ := leaf_blsat hf hs hlt
  cases e0
  exact ⟨_, _, _, _, rfl, hf⟩
end

set_option maxRecDepth 100000 in
set_option maxHeartbeats 8000000 in
theorem lifted (os : Os) (started : os.Started) (H : Type) (enc : TypeId × Value → H) :
    ReturnsInHanded {} Tryd.checked os 3 .any (fun w args => (Rows.saveBehindSpec.pre enc Tryd.prog Tryd.f3 [] false w args ∧ laidMetH Tryd.prog laidHalf w) ∧ sizedMet enc Tryd.prog Tryd.f3 (OpenSpec.ofChange Rows.saveBehindSpec) false w args)
      (Rows.saveBehindSpec.post enc Tryd.prog Tryd.f3 false true false false) := by
  refine law_lifted_laid (C := Tryd.checked) (X := fun w _ => laidMetH Tryd.prog laidHalf w) (fun _ _ _ hh h => h.of_heap hh) own started (by kernel_rfl) Tryd.func3
    (ChangeSpec.witness_shaped (enc := enc) (C := Tryd.checked) (os := os) (X := fun w _ => laidMetH Tryd.prog laidHalf w) false (World.doorLaid Tryd.prog 400 os) #[.int .u64 0, .bool false, .slice none 0 0] 8 rfl (World.shaped_of_RefB (by kernel_rfl) (by kernel_rfl)) (by kernel_rfl) (by kernel_rfl) (by kernel_rfl) (door_met os _))
    (by kernel_rfl) (by kernel_rfl) Tryd.underlying4 rfl (by kernel_rfl) ?_
  intro W base args ds before hval hA hwt hlt hL
  have hTab := Lib.hid (tab_of_laid hL)
  have hA' : DataW.TrodAll enc Tryd.prog W 0 (fun _ => true) true Tryd.f3.params.toList args.toList ds before := hA
  have hval' : ∀ (j : Nat) t v, Tryd.f3.params[j]? = some t → args[j]? = some v → Value.okWide Tryd.prog W .any base t v := hval
  have hwt' : (DataW.weightsEach Tryd.prog Tryd.f3.params.toList ds).all (· ≤ reachBytes) = true := hwt
  rw [Tryd.params3] at hA' hval' hwt'
  obtain ⟨v0, vs0, d0, ds0, p0, q0, hargs, rfl, rfl, k0, r0⟩ := trodAll_cons hA'
  obtain ⟨v1, vs1, d1, ds1, p1, q1, rfl, rfl, rfl, k1, r1⟩ := trodAll_cons r0
  obtain ⟨v2, vs2, d2, ds2, p2, q2, rfl, rfl, rfl, k2, r2⟩ := trodAll_cons r1
  obtain ⟨rfl, rfl, rfl⟩ := trodAll_nil r2
  obtain rfl : args = #[v0, v1, v2] := by cases args; simp_all
  obtain ⟨k, rfl, hk⟩ := open_k (hval' 0 22 v0 rfl rfl) k0 (sized_of hwt' (j := 0) (t := 22) rfl rfl) (fun x hx => hlt x (by simp [hx]))
  obtain ⟨b, rfl⟩ := open_b (hval' 1 4 v1 rfl rfl) k1 (sized_of hwt' (j := 1) (t := 4) rfl rfl) (fun x hx => hlt x (by simp [hx]))
  obtain ⟨fA, fL, fC, ff, rfl, hf⟩ := open_f (hval' 2 23 v2 rfl rfl) k2 (sized_of hwt' (j := 2) (t := 23) rfl rfl) (fun x hx => hlt x (by simp [hx]))
  refine ⟨rfl, ?_⟩
  obtain ⟨hfl, hfat⟩ := hf
  cases b with
  | true =>
    by_cases hm : (Ent.mk 1 1 k 0 0 0).mayB = true
    case neg => exact walk_true_no k hk fA fL fC ff hfl (by simpa using hm) W hTab (Lib.hid hfat)
    obtain ⟨N, GF, lF, j, s, hrun, hj, hls, hgf, ⟨rfl, hh, hs⟩ | ⟨rfl, hh⟩⟩ := bv_save (b := 1) hk (.inl rfl) _ (mkG_birth2 k) (fun j => decide (j < fL) && ff j)
    · exact walk_true_1 k hk fA fL fC ff hfl hm GF lF j s hrun hj hls hgf hh hs W hTab (Lib.hid hfat)
    · exact walk_true_0 k hk fA fL fC ff hfl hm GF lF j s hrun hj hls hgf hh W hTab (Lib.hid hfat)
  | false =>
    have hm : (Ent.mk 2 1 0 0 0 0).mayB = true := by decide +kernel
    obtain ⟨N, GF, lF, j, s, hrun, hj, hls, hgf, ⟨rfl, hh, hs⟩ | ⟨rfl, hh⟩⟩ := bv_save (b := 2) hk (.inr rfl) _ (mkG_death2 k) (fun j => decide (j < fL) && ff j)
    · exact walk_false_1 k hk fA fL fC ff hfl hm GF lF j s hrun hj hls hgf hh hs W hTab (Lib.hid hfat)
    · exact walk_false_0 k hk fA fL fC ff hfl hm GF lF j s hrun hj hls hgf hh W hTab (Lib.hid hfat)

theorem over : Rows.saveBehindRow.holds Tryd.pinned (OpenSpec.ofChange Rows.saveBehindSpec) :=
  OpenClaim.holds_of_wide 3 Tryd.f3 rfl rfl rfl rfl rfl rfl rfl ⟨rfl, rfl, rfl, rfl, rfl⟩ rfl rfl rfl rfl rfl (by kernel_rfl) Tryd.func3 (by kernel_rfl)
    (of_decide_eq_true (by kernel_rfl)) (by unfold Func.isWrapper; first | (rw [if_pos (by decide +kernel)]; kernel_rfl) | (rw [if_neg (by decide +kernel)]; exact ⟨rfl, rfl⟩))
    (fun os started H enc _ => lifted os started H enc)

/-- The statement: the card, tied to the program's text. -/
theorem proved : Rows.SaveBehindCardSaid :=
  Claim7.holds_tied_plain_at .later [] [.data] true (true, "2fb43c0deadbe9af7de9fd3aaa444727e05a9c5e462189d7aaacd0a7516a4d36") true
    over (fun _ h => by cases h) (by kernel_rfl) (fun _ h => by cases h) saveBehind_row_tie rfl ⟨rfl, rfl⟩ (by kernel_rfl) rfl
    (fun f fn hf hfn => by
      obtain rfl : f = 3 := Option.some.inj ((show Tryd.prog.funcNamed "weald/wealdlaw14.SaveBehind" = some 3 by kernel_rfl).symm.trans hf) |>.symm
      obtain rfl : fn = Tryd.f3 := (Option.some.inj (Tryd.func3.symm.trans hfn)).symm
      exact ⟨by kernel_rfl, fun j t ht => by
        rw [Tryd.params3] at ht
        have hm : t ∈ [22, 4, 23] := by simpa using Array.mem_of_getElem? ht
        have hall : ([22, 4, 23].all fun u => !Tryd.prog.wantsStandIn u) = true := by kernel_rfl
        exact (show Tryd.prog.wantsStandIn t = false by simpa using List.all_eq_true.1 hall t hm)⟩)
    (by kernel_rfl)
#print axioms proved
end Go.Proofs.YtdbomlclkhkinaaDoor.saveBehind
