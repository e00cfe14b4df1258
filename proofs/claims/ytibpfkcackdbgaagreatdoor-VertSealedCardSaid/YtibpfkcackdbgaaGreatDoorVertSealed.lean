/- VertSealed -/
import Derived.Test.YtibpfkcackdbgaaGreatDoorVrtC
import Derived.Test.YtibpfkcackdbgaaGreatDoorAccB
import Derived.Test.YtibpfkcackdbgaaGreatDoorAccC
import Derived.Test.YtibpfkcackdbgaaGreatDoorSavA
import Derived.Test.YtibpfkcackdbgaaGreatDoorSavB
import Derived.Test.YtibpfkcackdbgaaGreatDoorCards
import Derived.Test.YtibpfkcackdbgaaGreatDoorTie
import Derived.Test.YtibpfkcackdbgaaGreatDoorLaw
import Derived.Test.YtibpfkcackdbgaaGreatDoorFields
import Derived.Deep.Cut
namespace Go.Proofs.YtibpfkcackdbgaaGreatDoor.vertSealed
open Go.ChangeShapes Go.WideShapes Go.ChangeAt Go.RowKit Go.Deep Go.BigFrame
set_option linter.unusedVariables false
theorem own : ownKnob Tryz.prog.godebug = none := by kernel_rfl
abbrev laidHalf : List (String × DataW Unit) := [("weald/crc.half", Rows.laid_weald_crc_half)]
theorem door_met (os : Os) (args : Array Value) : laidMetH Tryz.prog laidHalf ((World.doorLaid Tryz.prog 400 os).forCall (fun _ _ => 0) ⟨#[], args, []⟩).memory :=
 laidMetH_of_parts3 (fuel := 8) (laidMet_of_run' 8 (by kernel_rfl) (by kernel_rfl)) (by kernel_rfl) (by kernel_rfl)
theorem refKeyIs_yes (u : Int) (w : World) (h : keyIsV u) :
  Calls Tryz.prog 36 #[.int .i64 u] w fun e w' => e = .returned (.bool true) ∧ w = w' := by
 obtain ⟨h0, h1⟩ := h
 have e0 : decide (u ≥ 0) = true := by simpa using h0
 have e1 : decide (u ≤ 1073741823) = true := decide_eq_true (by omega)
 go_enter Tryz.func36, Tryz.ntmps36
 go_wp2
 go_ret
 exact ⟨rfl, rfl⟩
theorem refKeyIs_no (u : Int) (w : World) (h : ¬ keyIsV u) :
  Calls Tryz.prog 36 #[.int .i64 u] w fun e w' => e = .returned (.bool false) ∧ w = w' := by
 unfold keyIsV at h
 by_cases h0 : u < 0
 ·clear h
  go_enter Tryz.func36, Tryz.ntmps36
  go_wp2
  go_ret
  exact ⟨rfl, rfl⟩
 ·have h2 : 0 ≤ u := by omega
  have h1 : 1073741824 ≤ u := by omega
  have e1 : decide (u ≤ 1073741823) = false := decide_eq_false (by omega)
  clear h h0
  go_enter Tryz.func36, Tryz.ntmps36
  go_wp2
  go_ret
  exact ⟨rfl, rfl⟩
theorem sealedRun (t n : Nat) (hn : 8 ≤ n) (kk u : Int) (hk : kk = 11 ∨ kk = 12 ∨ kk = 13) (F : Nat → Nat) (l0 : List Stm) :
  aloneM (vPrg t 0 kk u 2000) n 2 [] (setW F 7 1, l0) = some (if keyIsV u then 1 else 100, (setW F 7 1, l0)) := by
 have hs : setW (setW F 7 1) 7 1 = setW F 7 1 := by funext j; unfold setW; split <;> rfl
 have h7 : setW F 7 1 7 = 1 := by unfold setW; rw [if_pos rfl]
 unfold vPrg
 rw [if_pos hk]
 by_cases hu : keyIsV u
 ·rw [if_pos hu, if_pos hu]
  have hst : ∀ W : WS, W.1 = setW F 7 1 → W.2 = l0 → stepM n 0 7 0 0 W = some (1, false, (setW F 7 1, l0)) := by
   intro W e1 e2
   unfold stepM
   rw [if_pos (show (0 : Int) ≤ 0 ∧ (0 : Int) < 5 ∧ (0 : Int) ≤ 7 ∧ (7 : Int) < (n : Int) from (And.intro (by decide) (And.intro (by decide) (And.intro (by decide) (by omega)))))]
   rw [e1, e2]
   show some (toldN 0 0 0 (setW F 7 1 7), false, (setW (setW F 7 1) 7 (isN 0 0 0 (setW F 7 1 7)), l0)) = _
   rw [h7]
   show some (1, false, (setW (setW F 7 1) 7 1, l0)) = _
   rw [hs]
  unfold aloneM
  show (match stepM n 0 7 0 0 (setW F 7 1, l0) with | none => none | some (N, fl, W') => aloneM _ n 1 ([] ++ [(⟨N, [], fl⟩ : Res)]) W') = _
  rw [hst _ rfl rfl]
  rfl
 ·rw [if_neg hu, if_neg hu]
  rfl
set_option maxRecDepth 100000 in
set_option maxHeartbeats 8000000 in
theorem walkNo (t c : Int) (A : Option Addr) (n k : Nat) (F : Nat → Nat) (r : Nat) (R : Option Addr) (m0 ra : Nat) (S : Option Addr) (m1 sa : Nat) (l0 l1 : List Stm) (kd : Nat) (u : Int) (hsm : smallB t c n l0 l1 0 = false) (hnn : n ≤ 140737488355328) (w : World) (HTab : Hid (Tab w)) (hA : Hid (AtW w A n F)) (h0 : Hid (StmsAt w R m0 l0)) (h1 : Hid (StmsAt w S m1 l1)) :
  Calls Tryz.prog 9 #[.agg #[.int .i64 t, .int .i64 c, .slice A n k, .int .u64 (r : Int), .slice R m0 ra, .slice S m1 sa], .int .u8 (kd : Int), .int .i64 u] w fun e w' => e = .returned (.bool true) ∧ Below w.heap.size w w' := by
 have HSM := fun w h h' => small_at t c A n k r R m0 ra S m1 sa l0 l1 0 (by omega) w h h'
 rw [hsm] at HSM
 clear hsm hnn
 have K : Hid (VarAt (w.alloc (.cells #[.int .i64 t, .int .i64 c, .slice A n k, .int .u64 (r : Int), .slice R m0 ra, .slice S m1 sa] 33)) w.heap.size [.int .i64 t, .int .i64 c, .slice A n k, .int .u64 (r : Int), .slice R m0 ra, .slice S m1 sa]) := Lib.hid (VarAt.made w #[.int .i64 t, .int .i64 c, .slice A n k, .int .u64 (r : Int), .slice R m0 ra, .slice S m1 sa] 33)
 go_enter Tryz.func9, Tryz.ntmps9
 go_wp2_with fail
 (with_reducible refine (vrtShown _ (Tab.later HTab (al_below _ _))).mono ?_)
 rintro e w1 ⟨rfl, hb⟩
 have Kn := Lib.hid (K.out.below hb); clear K; have K := Kn; clear Kn
 have BB := Lib.hid ((al_below w (.cells #[.int .i64 t, .int .i64 c, .slice A n k, .int .u64 (r : Int), .slice R m0 ra, .slice S m1 sa] 33)).trans (hb.mono (al_below w (.cells #[.int .i64 t, .int .i64 c, .slice A n k, .int .u64 (r : Int), .slice R m0 ra, .slice S m1 sa] 33)).size))
 clear hb
 obtain ⟨_, ⟨c0, c1, c2, c3, c4, c5⟩, _⟩ := K.out.six
 go_wp2_with fail
 (with_reducible refine (HSM _ (Lib.hid (h0.out.later BB.out)) (Lib.hid (h1.out.later BB.out))).mono ?_)
 rintro e w2 ⟨rfl, hb⟩
 have Kn := Lib.hid (K.out.below hb); clear K; have K := Kn; clear Kn
 have BBn := Lib.hid (BB.out.trans (hb.mono BB.out.size)); clear BB; have BB := BBn; clear BBn
 clear c0 c1 c2 c3 c4 c5 hb HSM
 obtain ⟨_, ⟨c0, c1, c2, c3, c4, c5⟩, _⟩ := K.out.six
 go_wp2_with fail
 go_ret
 exact ⟨rfl, BB.out⟩
set_option maxRecDepth 100000 in
set_option maxHeartbeats 8000000 in
theorem walkYes (tn : Nat) (c : Int) (A : Option Addr) (n k : Nat) (F : Nat → Nat) (r : Nat) (R : Option Addr) (m0 ra : Nat) (S : Option Addr) (sa : Nat) (l0 l1 : List Stm) (kd : Nat) (u : Int) (hsm : smallB (tn : Int) c n l0 l1 0 = true) (hkd : kd < 256) (hnn : n ≤ 140737488355328) (hn6 : n ≤ 600) (hn8 : 8 ≤ n) (ht : tn ≤ 64) (hm1 : 1 ≤ m0) (hm8 : m0 ≤ 8) (hkv : keyIsV u) (w : World) (HTab : Hid (Tab w)) (hA : Hid (AtW w A n F)) (h0 : Hid (StmsAt w R m0 l0)) (h1 : Hid (StmsAt w S m0 l1)) :
  Calls Tryz.prog 9 #[.agg #[.int .i64 (tn : Int), .int .i64 c, .slice A n k, .int .u64 (r : Int), .slice R m0 ra, .slice S m0 sa], .int .u8 (kd : Int), .int .i64 u] w fun e w' => e = .returned (.bool true) ∧ Below w.heap.size w w' := by
 have HSM := fun w h h' => small_at (tn : Int) c A n k r R m0 ra S m0 sa l0 l1 0 (by omega) w h h'
 rw [hsm] at HSM
 clear hsm
 have HF := Lib.hid hA.out.1
 have HAL : ∀ (g cap : Nat) (kk : Int) (w : World), (kk = 11 ∨ kk = 12 ∨ kk = 13) → Hid (Tab w) → Hid (AtW w (some ⟨g, 0, none⟩) n (setW F 7 1)) → Hid (StmsAt w R m0 l0) → Hid (StmsAt w S m0 l1) →
   Calls Tryz.prog 33 #[.agg #[.int .i64 (tn : Int), .int .i64 c, .slice (some ⟨g, 0, none⟩) n cap, .int .u64 (r : Int), .slice R m0 ra, .slice S m0 sa], .int .i64 0, .agg #[.int .i64 kk, .int .i64 u, .int .i64 0, .int .u64 0], .int .i64 1] w (AloneR r w (tn : Int) c (some ⟨g, 0, none⟩) n R S m0 (setW F 7 1) l0 l1 6 false 0 0) := by
  intro g cap kk w hk hT h1 h2 h3
  have h := vAloneR_at r tn ht 0 (by omega) c kk u 0 0 1 (by omega) (some ⟨g, 0, none⟩) n cap R ra S sa (by omega) hm8 (setW F 7 1) l0 l1 _ _ (sealedRun tn n hn8 kk u hk F l0) w hT h1 h2 h3
  rw [if_pos hkv] at h
  exact h
 have HSAME : ∀ (A9 : Option Addr) (k9 : Nat) (R9 : Option Addr) (ra9 : Nat) (S9 : Option Addr) (sa9 : Nat) (g cap : Nat) (w : World), Hid (AtW w A9 n (setW F 7 1)) → Hid (AtW w (some ⟨g, 0, none⟩) n (setW F 7 1)) → Hid (StmsAt w R9 m0 l0) → Hid (StmsAt w S9 m0 l1) → Hid (StmsAt w R m0 l0) → Hid (StmsAt w S m0 l1) →
   Calls Tryz.prog 27 #[.agg #[.int .i64 (tn : Int), .int .i64 c, .slice A9 n k9, .int .u64 (r : Int), .slice R9 m0 ra9, .slice S9 m0 sa9], .agg #[.int .i64 (tn : Int), .int .i64 c, .slice (some ⟨g, 0, none⟩) n cap, .int .u64 (r : Int), .slice R m0 ra, .slice S m0 sa]] w (Kept w (.bool true)) :=
  fun A9 k9 R9 ra9 S9 sa9 g cap w h1 h2 h3 h4 h5 h6 => sameW_at (tn : Int) c A9 (some ⟨g, 0, none⟩) n k9 cap (setW F 7 1) hnn r R9 m0 ra9 S9 m0 sa9 R ra S sa l0 l1 w h1 h2 h3 h4 h5 h6
 have HIS := fun w => refKeyIs_yes u w hkv
 clear ht hm1 hm8 hkv
 have K : Hid (VarAt (w.alloc (.cells #[.int .i64 (tn : Int), .int .i64 c, .slice A n k, .int .u64 (r : Int), .slice R m0 ra, .slice S m0 sa] 33)) w.heap.size [.int .i64 (tn : Int), .int .i64 c, .slice A n k, .int .u64 (r : Int), .slice R m0 ra, .slice S m0 sa]) := Lib.hid (VarAt.made w #[.int .i64 (tn : Int), .int .i64 c, .slice A n k, .int .u64 (r : Int), .slice R m0 ra, .slice S m0 sa] 33)
 go_enter Tryz.func9, Tryz.ntmps9
 go_wp2_with fail
 (with_reducible refine (vrtShown _ (Tab.later HTab (al_below _ _))).mono ?_)
 rintro e w1 ⟨rfl, hb⟩
 have Kn := Lib.hid (K.out.below hb); clear K; have K := Kn; clear Kn
 have BB := Lib.hid ((al_below w (.cells #[.int .i64 (tn : Int), .int .i64 c, .slice A n k, .int .u64 (r : Int), .slice R m0 ra, .slice S m0 sa] 33)).trans (hb.mono (al_below w (.cells #[.int .i64 (tn : Int), .int .i64 c, .slice A n k, .int .u64 (r : Int), .slice R m0 ra, .slice S m0 sa] 33)).size))
 clear hb
 obtain ⟨_, ⟨c0, c1, c2, c3, c4, c5⟩, _⟩ := K.out.six
 go_wp2_with fail
 (with_reducible refine (HSM _ (Lib.hid (h0.out.later BB.out)) (Lib.hid (h1.out.later BB.out))).mono ?_)
 rintro e w2 ⟨rfl, hb⟩
 have Kn := Lib.hid (K.out.below hb); clear K; have K := Kn; clear Kn
 have BBn := Lib.hid (BB.out.trans (hb.mono BB.out.size)); clear BB; have BB := BBn; clear BBn
 clear c0 c1 c2 c3 c4 c5 hb HSM
 obtain ⟨_, ⟨c0, c1, c2, c3, c4, c5⟩, _⟩ := K.out.six
 obtain ⟨bb0, off, hAe, _, _⟩ := hA.out.2 (by omega)
 have HAL0 := HAL
 have hA2 := Lib.hid (hA.out.later BB.out)
 subst hAe
 go_upto_region 4 with fail
 go_wp2_with (at_builtin; (refine wpList_append_wds (by rfl) (.tmp 19) (.tmp 22) (by rfl) w2.heap.size (by rfl) ⟨bb0, off, none⟩ n k F (by rfl) hA2.out (by omega) (by omega) (by rfl) ?_); (intro g cap w3 hrow hg hcap hb; have HROW := Lib.hid hrow; have hgw : w.heap.size < g := Nat.lt_of_lt_of_le K.out.1 hg; have Kn := Lib.hid (K.out.below hb); clear K; have K := Kn; clear Kn; have BBn := Lib.hid (BB.out.trans (hb.mono BB.out.size)); clear BB; have BB := BBn; clear BBn; clear c0 c1 c2 c3 c4 c5 hrow hg hcap hb; obtain ⟨_, ⟨c0, c1, c2, c3, c4, c5⟩, _⟩ := K.out.six; have z0 := HROW.out.2.2.1 7 (by omega); have z1 := HROW.out.2.2.2 7))
 have hby : Below w.heap.size w (w3.setCell ⟨g, 7, none⟩ (.int .u64 1)) := below_set1 (by omega) _ BB.out
 have ROW5 : RowW (w3.setCell ⟨g, 7, none⟩ (.int .u64 1)) g n (setW F 7 1) := HROW.out.stored 7 1 (by omega) (setW F 7 1) (fun j => setW_lt HF.out (by decide) j) (fun j _ => rfl)
 have hys : (w3.setCell ⟨g, 7, none⟩ (.int .u64 1)).heap.size = w3.heap.size := by simp
 generalize w3.setCell ⟨g, 7, none⟩ (.int .u64 1) = y at hby ROW5 hys ⊢
 have hbx : Below y.heap.size y ((y.alloc (.cells #[.int .i64 (tn : Int), .int .i64 c, .slice (some ⟨g, 0, none⟩) n cap, .int .u64 (r : Int), .slice R m0 ra, .slice S m0 sa] 33)).alloc (.cells #[.int .i64 (11 + (kd : Int) % 3), .int .i64 u, .int .i64 0, .int .u64 0] 42)) := below_pair _ _ _
 have VS := Lib.hid ((VarAt.made y #[.int .i64 (tn : Int), .int .i64 c, .slice (some ⟨g, 0, none⟩) n cap, .int .u64 (r : Int), .slice R m0 ra, .slice S m0 sa] 33).below (al_below _ (.cells #[.int .i64 (11 + (kd : Int) % 3), .int .i64 u, .int .i64 0, .int .u64 0] 42)))
 generalize (y.alloc (.cells #[.int .i64 (tn : Int), .int .i64 c, .slice (some ⟨g, 0, none⟩) n cap, .int .u64 (r : Int), .slice R m0 ra, .slice S m0 sa] 33)).alloc (.cells #[.int .i64 (11 + (kd : Int) % 3), .int .i64 u, .int .i64 0, .int .u64 0] 42) = x at hbx VS ⊢
 have AX := Lib.hid (ROW5.at_.later hbx)
 have BX := Lib.hid (hby.trans (hbx.mono hby.size))
 rw [hys] at VS
 generalize w3.heap.size = bs at VS ⊢
 clear hby ROW5 hbx hys c0 c1 c2 c3 c4 c5 z0 z1 K HROW BB hA2
 (with_reducible refine (HAL0 g cap (11 + (kd : Int) % 3) _ (by omega) (Tab.later HTab BX.out) AX (Lib.hid (h0.out.later BX.out)) (Lib.hid (h1.out.later BX.out))).mono ?_)
 rintro e w8 ⟨A8, k8, R8, ra8, S8, sa8, rfl, ha, hs0, hs1, hb, _⟩
 go_upto_region 9 with fail
 have hbx : Below w8.heap.size w8 ((w8.alloc (.cells #[.int .i64 (tn : Int), .int .i64 c, .slice A8 n k8, .int .u64 (r : Int), .slice R8 m0 ra8, .slice S8 m0 sa8] 33)).alloc (.cells #[.int .i64 6, .bool false, .int .i64 0, .int .u64 0, .slice none 0 0] 38)) := below_pair _ _ _
 have V8 := Lib.hid ((VarAt.made w8 #[.int .i64 (tn : Int), .int .i64 c, .slice A8 n k8, .int .u64 (r : Int), .slice R8 m0 ra8, .slice S8 m0 sa8] 33).below (al_below _ (.cells #[.int .i64 6, .bool false, .int .i64 0, .int .u64 0, .slice none 0 0] 38)))
 have O8 := Lib.hid (VarAt.made1 w8 (.cells #[.int .i64 (tn : Int), .int .i64 c, .slice A8 n k8, .int .u64 (r : Int), .slice R8 m0 ra8, .slice S8 m0 sa8] 33) #[.int .i64 6, .bool false, .int .i64 0, .int .u64 0, .slice none 0 0] 38)
 generalize (w8.alloc (.cells #[.int .i64 (tn : Int), .int .i64 c, .slice A8 n k8, .int .u64 (r : Int), .slice R8 m0 ra8, .slice S8 m0 sa8] 33)).alloc (.cells #[.int .i64 6, .bool false, .int .i64 0, .int .u64 0, .slice none 0 0] 38) = x8 at hbx V8 O8 ⊢
 have hbn := hb.trans (hbx.mono hb.size)
 have A8' := Lib.hid (ha.later hbx)
 have S0' := Lib.hid (hs0.later hbx)
 have S1' := Lib.hid (hs1.later hbx)
 have AXn := Lib.hid (AX.out.later hbn); clear AX; have AX := AXn; clear AXn
 have VSn := Lib.hid (VS.out.below hbn); clear VS; have VS := VSn; clear VSn
 have BXn := Lib.hid (BX.out.trans (hbn.mono BX.out.size)); clear BX; have BX := BXn; clear BXn
 generalize w8.heap.size = b8 at V8 O8 ⊢
 clear ha hs0 hs1 hb hbx hbn
 obtain ⟨_, ⟨c0, c1, c2, c3, c4, c5⟩, _⟩ := VS.out.six
 obtain ⟨_, ⟨a0, a1, a2, a3, a4, a5⟩, _⟩ := V8.out.six
 go_wp2_with fail
 (with_reducible refine (HSAME _ _ _ _ _ _ _ _ _ A8' AX S0' S1' (Lib.hid (h0.out.later BX.out)) (Lib.hid (h1.out.later BX.out))).mono ?_)
 rintro e w9 ⟨rfl, hb⟩
 have BXn := Lib.hid (BX.out.trans (hb.mono BX.out.size)); clear BX; have BX := BXn; clear BXn
 obtain ⟨_, ⟨o0, o1, o2, o3, o4⟩, _⟩ := (O8.out.below hb).five
 clear hb c0 c1 c2 c3 c4 c5 a0 a1 a2 a3 a4 a5 AX VS V8 O8 A8' S0' S1' HAL HAL0 HSAME
 go_wp2_with fail
 (with_reducible refine (HIS _).mono ?_)
 rintro e w10 ⟨rfl, rfl⟩
 go_wp2_with fail
 go_ret
 exact ⟨rfl, BX.out⟩
set_option maxRecDepth 100000 in
set_option maxHeartbeats 8000000 in
theorem walkKey (tn : Nat) (c : Int) (A : Option Addr) (n k : Nat) (F : Nat → Nat) (r : Nat) (R : Option Addr) (m0 ra : Nat) (S : Option Addr) (sa : Nat) (l0 l1 : List Stm) (kd : Nat) (u : Int) (hsm : smallB (tn : Int) c n l0 l1 0 = true) (hkd : kd < 256) (hnn : n ≤ 140737488355328) (hn6 : n ≤ 600) (hn8 : 8 ≤ n) (ht : tn ≤ 64) (hm1 : 1 ≤ m0) (hm8 : m0 ≤ 8) (hkv : ¬ keyIsV u) (w : World) (HTab : Hid (Tab w)) (hA : Hid (AtW w A n F)) (h0 : Hid (StmsAt w R m0 l0)) (h1 : Hid (StmsAt w S m0 l1)) :
  Calls Tryz.prog 9 #[.agg #[.int .i64 (tn : Int), .int .i64 c, .slice A n k, .int .u64 (r : Int), .slice R m0 ra, .slice S m0 sa], .int .u8 (kd : Int), .int .i64 u] w fun e w' => e = .returned (.bool true) ∧ Below w.heap.size w w' := by
 have HSM := fun w h h' => small_at (tn : Int) c A n k r R m0 ra S m0 sa l0 l1 0 (by omega) w h h'
 rw [hsm] at HSM
 clear hsm
 have HF := Lib.hid hA.out.1
 have HAL : ∀ (g cap : Nat) (kk : Int) (w : World), (kk = 11 ∨ kk = 12 ∨ kk = 13) → Hid (Tab w) → Hid (AtW w (some ⟨g, 0, none⟩) n (setW F 7 1)) → Hid (StmsAt w R m0 l0) → Hid (StmsAt w S m0 l1) →
   Calls Tryz.prog 33 #[.agg #[.int .i64 (tn : Int), .int .i64 c, .slice (some ⟨g, 0, none⟩) n cap, .int .u64 (r : Int), .slice R m0 ra, .slice S m0 sa], .int .i64 0, .agg #[.int .i64 kk, .int .i64 u, .int .i64 0, .int .u64 0], .int .i64 1] w (AloneR r w (tn : Int) c (some ⟨g, 0, none⟩) n R S m0 (setW F 7 1) l0 l1 4 false 0 0) := by
  intro g cap kk w hk hT h1 h2 h3
  have h := vAloneR_at r tn ht 0 (by omega) c kk u 0 0 1 (by omega) (some ⟨g, 0, none⟩) n cap R ra S sa (by omega) hm8 (setW F 7 1) l0 l1 _ _ (sealedRun tn n hn8 kk u hk F l0) w hT h1 h2 h3
  rw [if_neg hkv] at h
  exact h
 have HSAME : ∀ (A9 : Option Addr) (k9 : Nat) (R9 : Option Addr) (ra9 : Nat) (S9 : Option Addr) (sa9 : Nat) (g cap : Nat) (w : World), Hid (AtW w A9 n (setW F 7 1)) → Hid (AtW w (some ⟨g, 0, none⟩) n (setW F 7 1)) → Hid (StmsAt w R9 m0 l0) → Hid (StmsAt w S9 m0 l1) → Hid (StmsAt w R m0 l0) → Hid (StmsAt w S m0 l1) →
   Calls Tryz.prog 27 #[.agg #[.int .i64 (tn : Int), .int .i64 c, .slice A9 n k9, .int .u64 (r : Int), .slice R9 m0 ra9, .slice S9 m0 sa9], .agg #[.int .i64 (tn : Int), .int .i64 c, .slice (some ⟨g, 0, none⟩) n cap, .int .u64 (r : Int), .slice R m0 ra, .slice S m0 sa]] w (Kept w (.bool true)) :=
  fun A9 k9 R9 ra9 S9 sa9 g cap w h1 h2 h3 h4 h5 h6 => sameW_at (tn : Int) c A9 (some ⟨g, 0, none⟩) n k9 cap (setW F 7 1) hnn r R9 m0 ra9 S9 m0 sa9 R ra S sa l0 l1 w h1 h2 h3 h4 h5 h6
 have HIS := fun w => refKeyIs_no u w hkv
 clear ht hm1 hm8 hkv
 have K : Hid (VarAt (w.alloc (.cells #[.int .i64 (tn : Int), .int .i64 c, .slice A n k, .int .u64 (r : Int), .slice R m0 ra, .slice S m0 sa] 33)) w.heap.size [.int .i64 (tn : Int), .int .i64 c, .slice A n k, .int .u64 (r : Int), .slice R m0 ra, .slice S m0 sa]) := Lib.hid (VarAt.made w #[.int .i64 (tn : Int), .int .i64 c, .slice A n k, .int .u64 (r : Int), .slice R m0 ra, .slice S m0 sa] 33)
 go_enter Tryz.func9, Tryz.ntmps9
 go_wp2_with fail
 (with_reducible refine (vrtShown _ (Tab.later HTab (al_below _ _))).mono ?_)
 rintro e w1 ⟨rfl, hb⟩
 have Kn := Lib.hid (K.out.below hb); clear K; have K := Kn; clear Kn
 have BB := Lib.hid ((al_below w (.cells #[.int .i64 (tn : Int), .int .i64 c, .slice A n k, .int .u64 (r : Int), .slice R m0 ra, .slice S m0 sa] 33)).trans (hb.mono (al_below w (.cells #[.int .i64 (tn : Int), .int .i64 c, .slice A n k, .int .u64 (r : Int), .slice R m0 ra, .slice S m0 sa] 33)).size))
 clear hb
 obtain ⟨_, ⟨c0, c1, c2, c3, c4, c5⟩, _⟩ := K.out.six
 go_wp2_with fail
 (with_reducible refine (HSM _ (Lib.hid (h0.out.later BB.out)) (Lib.hid (h1.out.later BB.out))).mono ?_)
 rintro e w2 ⟨rfl, hb⟩
 have Kn := Lib.hid (K.out.below hb); clear K; have K := Kn; clear Kn
 have BBn := Lib.hid (BB.out.trans (hb.mono BB.out.size)); clear BB; have BB := BBn; clear BBn
 clear c0 c1 c2 c3 c4 c5 hb HSM
 obtain ⟨_, ⟨c0, c1, c2, c3, c4, c5⟩, _⟩ := K.out.six
 obtain ⟨bb0, off, hAe, _, _⟩ := hA.out.2 (by omega)
 have HAL0 := HAL
 have hA2 := Lib.hid (hA.out.later BB.out)
 subst hAe
 go_upto_region 4 with fail
 go_wp2_with (at_builtin; (refine wpList_append_wds (by rfl) (.tmp 19) (.tmp 22) (by rfl) w2.heap.size (by rfl) ⟨bb0, off, none⟩ n k F (by rfl) hA2.out (by omega) (by omega) (by rfl) ?_); (intro g cap w3 hrow hg hcap hb; have HROW := Lib.hid hrow; have hgw : w.heap.size < g := Nat.lt_of_lt_of_le K.out.1 hg; have Kn := Lib.hid (K.out.below hb); clear K; have K := Kn; clear Kn; have BBn := Lib.hid (BB.out.trans (hb.mono BB.out.size)); clear BB; have BB := BBn; clear BBn; clear c0 c1 c2 c3 c4 c5 hrow hg hcap hb; obtain ⟨_, ⟨c0, c1, c2, c3, c4, c5⟩, _⟩ := K.out.six; have z0 := HROW.out.2.2.1 7 (by omega); have z1 := HROW.out.2.2.2 7))
 have hby : Below w.heap.size w (w3.setCell ⟨g, 7, none⟩ (.int .u64 1)) := below_set1 (by omega) _ BB.out
 have ROW5 : RowW (w3.setCell ⟨g, 7, none⟩ (.int .u64 1)) g n (setW F 7 1) := HROW.out.stored 7 1 (by omega) (setW F 7 1) (fun j => setW_lt HF.out (by decide) j) (fun j _ => rfl)
 have hys : (w3.setCell ⟨g, 7, none⟩ (.int .u64 1)).heap.size = w3.heap.size := by simp
 generalize w3.setCell ⟨g, 7, none⟩ (.int .u64 1) = y at hby ROW5 hys ⊢
 have hbx : Below y.heap.size y ((y.alloc (.cells #[.int .i64 (tn : Int), .int .i64 c, .slice (some ⟨g, 0, none⟩) n cap, .int .u64 (r : Int), .slice R m0 ra, .slice S m0 sa] 33)).alloc (.cells #[.int .i64 (11 + (kd : Int) % 3), .int .i64 u, .int .i64 0, .int .u64 0] 42)) := below_pair _ _ _
 have VS := Lib.hid ((VarAt.made y #[.int .i64 (tn : Int), .int .i64 c, .slice (some ⟨g, 0, none⟩) n cap, .int .u64 (r : Int), .slice R m0 ra, .slice S m0 sa] 33).below (al_below _ (.cells #[.int .i64 (11 + (kd : Int) % 3), .int .i64 u, .int .i64 0, .int .u64 0] 42)))
 generalize (y.alloc (.cells #[.int .i64 (tn : Int), .int .i64 c, .slice (some ⟨g, 0, none⟩) n cap, .int .u64 (r : Int), .slice R m0 ra, .slice S m0 sa] 33)).alloc (.cells #[.int .i64 (11 + (kd : Int) % 3), .int .i64 u, .int .i64 0, .int .u64 0] 42) = x at hbx VS ⊢
 have AX := Lib.hid (ROW5.at_.later hbx)
 have BX := Lib.hid (hby.trans (hbx.mono hby.size))
 rw [hys] at VS
 generalize w3.heap.size = bs at VS ⊢
 clear hby ROW5 hbx hys c0 c1 c2 c3 c4 c5 z0 z1 K HROW BB hA2
 (with_reducible refine (HAL0 g cap (11 + (kd : Int) % 3) _ (by omega) (Tab.later HTab BX.out) AX (Lib.hid (h0.out.later BX.out)) (Lib.hid (h1.out.later BX.out))).mono ?_)
 rintro e w8 ⟨A8, k8, R8, ra8, S8, sa8, rfl, ha, hs0, hs1, hb, _⟩
 go_upto_region 9 with fail
 have hbx : Below w8.heap.size w8 ((w8.alloc (.cells #[.int .i64 (tn : Int), .int .i64 c, .slice A8 n k8, .int .u64 (r : Int), .slice R8 m0 ra8, .slice S8 m0 sa8] 33)).alloc (.cells #[.int .i64 4, .bool false, .int .i64 0, .int .u64 0, .slice none 0 0] 38)) := below_pair _ _ _
 have V8 := Lib.hid ((VarAt.made w8 #[.int .i64 (tn : Int), .int .i64 c, .slice A8 n k8, .int .u64 (r : Int), .slice R8 m0 ra8, .slice S8 m0 sa8] 33).below (al_below _ (.cells #[.int .i64 4, .bool false, .int .i64 0, .int .u64 0, .slice none 0 0] 38)))
 have O8 := Lib.hid (VarAt.made1 w8 (.cells #[.int .i64 (tn : Int), .int .i64 c, .slice A8 n k8, .int .u64 (r : Int), .slice R8 m0 ra8, .slice S8 m0 sa8] 33) #[.int .i64 4, .bool false, .int .i64 0, .int .u64 0, .slice none 0 0] 38)
 generalize (w8.alloc (.cells #[.int .i64 (tn : Int), .int .i64 c, .slice A8 n k8, .int .u64 (r : Int), .slice R8 m0 ra8, .slice S8 m0 sa8] 33)).alloc (.cells #[.int .i64 4, .bool false, .int .i64 0, .int .u64 0, .slice none 0 0] 38) = x8 at hbx V8 O8 ⊢
 have hbn := hb.trans (hbx.mono hb.size)
 have A8' := Lib.hid (ha.later hbx)
 have S0' := Lib.hid (hs0.later hbx)
 have S1' := Lib.hid (hs1.later hbx)
 have AXn := Lib.hid (AX.out.later hbn); clear AX; have AX := AXn; clear AXn
 have VSn := Lib.hid (VS.out.below hbn); clear VS; have VS := VSn; clear VSn
 have BXn := Lib.hid (BX.out.trans (hbn.mono BX.out.size)); clear BX; have BX := BXn; clear BXn
 generalize w8.heap.size = b8 at V8 O8 ⊢
 clear ha hs0 hs1 hb hbx hbn
 obtain ⟨_, ⟨c0, c1, c2, c3, c4, c5⟩, _⟩ := VS.out.six
 obtain ⟨_, ⟨a0, a1, a2, a3, a4, a5⟩, _⟩ := V8.out.six
 go_wp2_with fail
 (with_reducible refine (HSAME _ _ _ _ _ _ _ _ _ A8' AX S0' S1' (Lib.hid (h0.out.later BX.out)) (Lib.hid (h1.out.later BX.out))).mono ?_)
 rintro e w9 ⟨rfl, hb⟩
 have BXn := Lib.hid (BX.out.trans (hb.mono BX.out.size)); clear BX; have BX := BXn; clear BXn
 obtain ⟨_, ⟨o0, o1, o2, o3, o4⟩, _⟩ := (O8.out.below hb).five
 clear hb c0 c1 c2 c3 c4 c5 a0 a1 a2 a3 a4 a5 AX VS V8 O8 A8' S0' S1' HAL HAL0 HSAME
 go_wp2_with fail
 (with_reducible refine (HIS _).mono ?_)
 rintro e w10 ⟨rfl, rfl⟩
 go_wp2_with fail
 go_ret
 exact ⟨rfl, BX.out⟩
section
set_option maxRecDepth 100000
set_option maxHeartbeats 2000000
variable {H : Type} {enc : TypeId × Value → H} {w : World}
theorem open_w {v : Value} {d : DataW H} {ps : List MemPlace} {base : Nat} (hval : Value.okWide Tryz.prog w .any base 33 v) (h : DataW.Trod enc Tryz.prog w 0 (fun _ => true) true 33 v d ps) (hs : Sized Tryz.prog 33 d) (hlt : ∀ z ∈ ps, z.block < w.heap.size) :
  ∃ (wMemT : Int) (wMemC : Int) (wMemWordA : Option Addr) (wMemWordL wMemWordC : Nat) (wMemWordf : Nat → Nat) (wDiskRoot : Nat) (wDiskRows0A : Option Addr) (wDiskRows0L wDiskRows0C : Nat) (wDiskRows0l : List Stm) (wDiskRows1A : Option Addr) (wDiskRows1L wDiskRows1C : Nat) (wDiskRows1l : List Stm), v = .agg #[.int .i64 wMemT, .int .i64 wMemC, .slice wMemWordA wMemWordL wMemWordC, .int .u64 (wDiskRoot : Int), .slice wDiskRows0A wDiskRows0L wDiskRows0C, .slice wDiskRows1A wDiskRows1L wDiskRows1C] ∧ (-9223372036854775808 ≤ wMemT ∧ wMemT < 9223372036854775808) ∧ (-9223372036854775808 ≤ wMemC ∧ wMemC < 9223372036854775808) ∧ (wMemWordL ≤ wMemWordC ∧ wMemWordL ≤ 140737488355328 ∧ AtW w wMemWordA wMemWordL wMemWordf) ∧ wDiskRoot < 18446744073709551616 ∧ (wDiskRows0L ≤ wDiskRows0C ∧ StmsAt w wDiskRows0A wDiskRows0L wDiskRows0l) ∧ (wDiskRows1L ≤ wDiskRows1C ∧ StmsAt w wDiskRows1A wDiskRows1L wDiskRows1l) := by
 obtain ⟨cs, rfl, hsz⟩ := okWide_struct Tryz.underlying33 hval
 obtain ⟨fuel, hf⟩ := h
 have hcs : (Value.agg cs).cells.toList = cs.toList := rfl
 rw [hcs] at hf
 have hcl : cs.toList.length = 6 := by rw [Array.length_toList, hsz]; kernel_rfl
 obtain ⟨c0, c1, c2, c3, c4, c5, hL⟩ : ∃ c0 c1 c2 c3 c4 c5, cs.toList = [c0, c1, c2, c3, c4, c5] := ⟨_, _, _, _, _, _, cells_of hcl .nilIface⟩
 rw [hL] at hf
 rw [list_agg hL]
 clear hcl hL hsz hcs
 obtain ⟨y0, n0, g0, s0, q0⟩ := field_at Tryz.underlying33 hf 0 _ rfl 26 0 3 [c0, c1, c2] rfl rfl (by kernel_rfl) rfl hs hlt
 obtain ⟨y1, n1, g1, s1, q1⟩ := field_at Tryz.underlying26 g0 0 _ rfl 3 0 1 [c0] rfl rfl (by kernel_rfl) rfl s0 q0
 obtain ⟨wMemT, e2, hwMemT⟩ := leaf_i64 Tryz.underlying3 g1
 cases e2
 obtain ⟨y3, n3, g3, s3, q3⟩ := field_at Tryz.underlying26 g0 1 _ rfl 3 1 1 [c1] rfl rfl (by kernel_rfl) rfl s0 q0
 obtain ⟨wMemC, e4, hwMemC⟩ := leaf_i64 Tryz.underlying3 g3
 cases e4
 obtain ⟨y5, n5, g5, s5, q5⟩ := field_at Tryz.underlying26 g0 2 _ rfl 24 2 1 [c2] rfl rfl (by kernel_rfl) rfl s0 q0
 obtain ⟨wMemWordA, wMemWordL, wMemWordC, wMemWordf, e6, hwMemWord⟩ := leaf_words g5 s5 q5
 cases e6
 obtain ⟨y7, n7, g7, s7, q7⟩ := field_at Tryz.underlying33 hf 1 _ rfl 31 3 3 [c3, c4, c5] rfl rfl (by kernel_rfl) rfl hs hlt
 obtain ⟨y8, n8, g8, s8, q8⟩ := field_at Tryz.underlying31 g7 0 _ rfl 27 0 1 [c3] rfl rfl (by kernel_rfl) rfl s7 q7
 obtain ⟨wDiskRoot, e9, hwDiskRoot⟩ := leaf_u64 Tryz.underlying27 g8
 cases e9
 obtain ⟨y10, n10, g10, s10, q10⟩ := field_at Tryz.underlying31 g7 1 _ rfl 29 1 2 [c4, c5] rfl rfl (by kernel_rfl) rfl s7 q7
 obtain ⟨y11, n11, g11, s11, q11⟩ := elem_at Tryz.underlying29 g10 0 (by decide) 1 [c4] (by kernel_rfl) rfl s10 q10
 obtain ⟨wDiskRows0A, wDiskRows0L, wDiskRows0C, wDiskRows0l, e12, hwDiskRows0⟩ := leaf_streams g11 s11 q11
 cases e12
 obtain ⟨y13, n13, g13, s13, q13⟩ := elem_at Tryz.underlying29 g10 1 (by decide) 1 [c5] (by kernel_rfl) rfl s10 q10
 obtain ⟨wDiskRows1A, wDiskRows1L, wDiskRows1C, wDiskRows1l, e14, hwDiskRows1⟩ := leaf_streams g13 s13 q13
 cases e14
 exact ⟨wMemT, wMemC, wMemWordA, wMemWordL, wMemWordC, wMemWordf, wDiskRoot, wDiskRows0A, wDiskRows0L, wDiskRows0C, wDiskRows0l, wDiskRows1A, wDiskRows1L, wDiskRows1C, wDiskRows1l, rfl, hwMemT, hwMemC, hwMemWord, hwDiskRoot, hwDiskRows0, hwDiskRows1⟩
theorem open_kd {v : Value} {d : DataW H} {ps : List MemPlace} {base : Nat} (hval : Value.okWide Tryz.prog w .any base 5 v) (h : DataW.Trod enc Tryz.prog w 0 (fun _ => true) true 5 v d ps) (hs : Sized Tryz.prog 5 d) (hlt : ∀ z ∈ ps, z.block < w.heap.size) :
  ∃ (kd : Nat), v = .int .u8 (kd : Int) ∧ kd < 256 := by
 obtain ⟨a0, rfl⟩ := okWide_int Tryz.underlying5 hval
 obtain ⟨fuel, hf0⟩ := h
 have hf : DataW.trod enc Tryz.prog w 0 (fun _ => true) true fuel 5 [.int .u8 a0] = some (d, ps) := hf0
 obtain ⟨kd, e0, hkd⟩ := leaf_u8 Tryz.underlying5 hf
 cases e0
 exact ⟨_, rfl, hkd⟩
theorem open_u {v : Value} {d : DataW H} {ps : List MemPlace} {base : Nat} (hval : Value.okWide Tryz.prog w .any base 3 v) (h : DataW.Trod enc Tryz.prog w 0 (fun _ => true) true 3 v d ps) (hs : Sized Tryz.prog 3 d) (hlt : ∀ z ∈ ps, z.block < w.heap.size) :
  ∃ (u : Int), v = .int .i64 u ∧ (-9223372036854775808 ≤ u ∧ u < 9223372036854775808) := by
 obtain ⟨a0, rfl⟩ := okWide_int Tryz.underlying3 hval
 obtain ⟨fuel, hf0⟩ := h
 have hf : DataW.trod enc Tryz.prog w 0 (fun _ => true) true fuel 3 [.int .i64 a0] = some (d, ps) := hf0
 obtain ⟨u, e0, hu⟩ := leaf_i64 Tryz.underlying3 hf
 cases e0
 exact ⟨_, rfl, hu⟩
end
set_option maxRecDepth 100000 in
set_option maxHeartbeats 8000000 in
theorem lifted (os : Os) (started : os.Started) (H : Type) (enc : TypeId × Value → H) :
  ReturnsInHanded {} Tryz.checked os 9 .any (fun w args => (Rows.vertSealedSpec.pre enc Tryz.prog Tryz.f9 [] false w args ∧ laidMetH Tryz.prog laidHalf w) ∧ sizedMet enc Tryz.prog Tryz.f9 (OpenSpec.ofChange Rows.vertSealedSpec) false w args)
   (Rows.vertSealedSpec.post enc Tryz.prog Tryz.f9 false true false false) := by
 refine law_lifted_laid (C := Tryz.checked) (X := fun w _ => laidMetH Tryz.prog laidHalf w) (fun _ _ _ hh h => h.of_heap hh) own started (by kernel_rfl) Tryz.func9
  (ChangeSpec.witness_shaped (enc := enc) (C := Tryz.checked) (os := os) (X := fun w _ => laidMetH Tryz.prog laidHalf w) false (World.doorLaid Tryz.prog 400 os) #[.agg #[.int .i64 0, .int .i64 0, .slice none 0 0, .int .u64 0, .slice none 0 0, .slice none 0 0], .int .u8 0, .int .i64 0] 8 rfl (World.shaped_of_RefB (by kernel_rfl) (by kernel_rfl)) (by kernel_rfl) (by kernel_rfl) (by kernel_rfl) (door_met os _))
  (by kernel_rfl) (by kernel_rfl) Tryz.underlying4 rfl (by kernel_rfl) ?_
 intro W base args ds before hval hA hwt hlt hL
 have hTab := Lib.hid (tab_of_laid hL)
 have hA' : DataW.TrodAll enc Tryz.prog W 0 (fun _ => true) true Tryz.f9.params.toList args.toList ds before := hA
 have hval' : ∀ (j : Nat) t v, Tryz.f9.params[j]? = some t → args[j]? = some v → Value.okWide Tryz.prog W .any base t v := hval
 have hwt' : (DataW.weightsEach Tryz.prog Tryz.f9.params.toList ds).all (· ≤ reachBytes) = true := hwt
 rw [Tryz.params9] at hA' hval' hwt'
 obtain ⟨v0, vs0, d0, ds0, p0, q0, hargs, rfl, rfl, k0, r0⟩ := trodAll_cons hA'
 obtain ⟨v1, vs1, d1, ds1, p1, q1, rfl, rfl, rfl, k1, r1⟩ := trodAll_cons r0
 obtain ⟨v2, vs2, d2, ds2, p2, q2, rfl, rfl, rfl, k2, r2⟩ := trodAll_cons r1
 obtain ⟨rfl, rfl, rfl⟩ := trodAll_nil r2
 obtain rfl : args = #[v0, v1, v2] := by cases args; simp_all
 obtain ⟨wMemT, wMemC, wMemWordA, wMemWordL, wMemWordC, wMemWordf, wDiskRoot, wDiskRows0A, wDiskRows0L, wDiskRows0C, wDiskRows0l, wDiskRows1A, wDiskRows1L, wDiskRows1C, wDiskRows1l, rfl, hwMemT, hwMemC, hwMemWord, hwDiskRoot, hwDiskRows0, hwDiskRows1⟩ := open_w (hval' 0 33 v0 rfl rfl) k0 (sized_of hwt' (j := 0) (t := 33) rfl rfl) (fun x hx => hlt x (by simp [hx]))
 obtain ⟨kd, rfl, hkd⟩ := open_kd (hval' 1 5 v1 rfl rfl) k1 (sized_of hwt' (j := 1) (t := 5) rfl rfl) (fun x hx => hlt x (by simp [hx]))
 obtain ⟨u, rfl, hu⟩ := open_u (hval' 2 3 v2 rfl rfl) k2 (sized_of hwt' (j := 2) (t := 3) rfl rfl) (fun x hx => hlt x (by simp [hx]))
 refine ⟨rfl, ?_⟩
 obtain ⟨hlc, hlm, hAW⟩ := hwMemWord
 obtain ⟨_, h0⟩ := hwDiskRows0
 obtain ⟨_, h1⟩ := hwDiskRows1
 by_cases hsm : smallB wMemT wMemC wMemWordL wDiskRows0l wDiskRows1l 0 = true
 ·have hs := hsm
  unfold smallB at hs
  simp only [Bool.and_eq_true, decide_eq_true_eq] at hs
  obtain ⟨hf, hr, hn6, _, _⟩ := hs
  obtain ⟨hn0, hm1, hm8, hgd, hx0, hx1, hlen⟩ := right_parts hr hf h0.1 h1.1
  have hl' := hlen.symm
  subst hl'
  unfold rightW rightM at hr
  simp only [Bool.and_eq_true, decide_eq_true_eq] at hr
  obtain ⟨⟨hmb, hnn⟩, _⟩ := hr
  obtain ⟨tn, cn, ht, hc, t1, t2, c1⟩ := mayB_iff hmb
  subst ht
  by_cases hkv : keyIsV u
  ·exact walkYes tn wMemC wMemWordA wMemWordL wMemWordC wMemWordf wDiskRoot wDiskRows0A wDiskRows0L wDiskRows0C wDiskRows1A wDiskRows1C wDiskRows0l wDiskRows1l kd u hsm hkd hlm hn6 (by omega) t2 hm1 hm8 hkv W hTab (Lib.hid hAW) (Lib.hid h0) (Lib.hid h1)
  ·exact walkKey tn wMemC wMemWordA wMemWordL wMemWordC wMemWordf wDiskRoot wDiskRows0A wDiskRows0L wDiskRows0C wDiskRows1A wDiskRows1C wDiskRows0l wDiskRows1l kd u hsm hkd hlm hn6 (by omega) t2 hm1 hm8 hkv W hTab (Lib.hid hAW) (Lib.hid h0) (Lib.hid h1)
 ·exact walkNo wMemT wMemC wMemWordA wMemWordL wMemWordC wMemWordf wDiskRoot wDiskRows0A wDiskRows0L wDiskRows0C wDiskRows1A wDiskRows1L wDiskRows1C wDiskRows0l wDiskRows1l kd u (by simpa using hsm) hlm W hTab (Lib.hid hAW) (Lib.hid h0) (Lib.hid h1)
theorem over : Rows.vertSealedRow.holds Tryz.pinned (OpenSpec.ofChange Rows.vertSealedSpec) :=
 OpenClaim.holds_of_wide 9 Tryz.f9 rfl rfl rfl rfl rfl rfl rfl ⟨rfl, rfl, rfl, rfl, rfl⟩ rfl rfl rfl rfl rfl (by kernel_rfl) Tryz.func9 (by kernel_rfl)
  (of_decide_eq_true (by kernel_rfl)) (by unfold Func.isWrapper; first | (rw [if_pos (by decide +kernel)]; kernel_rfl) | (rw [if_neg (by decide +kernel)]; exact ⟨rfl, rfl⟩))
  (fun os started H enc _ => lifted os started H enc)
theorem proved : Rows.VertSealedCardSaid :=
 Claim7.holds_tied_plain_at .later [] [.data] true (true, "a3f0f31a54d84e334abdb6afb94ff2979c5f8ad5e3892efc7c397a8c2172375d") true
  over (fun _ h => by cases h) (by kernel_rfl) (fun _ h => by cases h) vertSealed_row_tie rfl ⟨rfl, rfl⟩ (by kernel_rfl) rfl
  (fun f fn hf hfn => by
   obtain rfl : f = 9 := Option.some.inj ((show Tryz.prog.funcNamed "weald/wealdlaw16.VertSealed" = some 9 by kernel_rfl).symm.trans hf) |>.symm
   obtain rfl : fn = Tryz.f9 := (Option.some.inj (Tryz.func9.symm.trans hfn)).symm
   exact ⟨by kernel_rfl, fun j t ht => by
    rw [Tryz.params9] at ht
    have hm : t ∈ [33, 5, 3] := by simpa using Array.mem_of_getElem? ht
    have hall : ([33, 5, 3].all fun u => !Tryz.prog.wantsStandIn u) = true := by kernel_rfl
    exact (show Tryz.prog.wantsStandIn t = false by simpa using List.all_eq_true.1 hall t hm)⟩)
  (by kernel_rfl)
#print axioms proved
end Go.Proofs.YtibpfkcackdbgaaGreatDoor.vertSealed
