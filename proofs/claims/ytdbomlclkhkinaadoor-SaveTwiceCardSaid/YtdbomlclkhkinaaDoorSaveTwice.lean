/-
  SaveTwice: what is durable is saved again by one access, and no disk; a death, and a birth, are saved apart and read back; for every key, either first. No condition beyond the statement's own.
-/
import Derived.Test.YtdbomlclkhkinaaDoorSavTw
import Derived.Test.YtdbomlclkhkinaaDoorEntRefDec
import Derived.Test.YtdbomlclkhkinaaDoorEntB
import Derived.Test.YtdbomlclkhkinaaDoorAfter
import Derived.Test.YtdbomlclkhkinaaDoorAccB
import Derived.Test.YtdbomlclkhkinaaDoorCards
import Derived.Test.YtdbomlclkhkinaaDoorTie
import Derived.Test.YtdbomlclkhkinaaDoorLaw
import Derived.Test.YtdbomlclkhkinaaDoorFields
import Derived.Deep.Cut
import Derived.Deep.CutRange
namespace Go.Proofs.YtdbomlclkhkinaaDoor.saveTwice
open Go.ChangeShapes Go.WideShapes Go.ChangeAt Go.RowKit Go.Deep Go.BigFrame
set_option linter.unusedVariables false
theorem own : ownKnob Tryd.prog.godebug = none := by kernel_rfl
abbrev laidHalf : List (String × DataW Unit) := [("weald/crc.half", Rows.laid_weald_crc_half)]
theorem door_met (os : Os) (args : Array Value) : laidMetH Tryd.prog laidHalf ((World.doorLaid Tryd.prog 400 os).forCall (fun _ _ => 0) ⟨#[], args, []⟩).memory :=
  laidMetH_of_parts3 (fuel := 8) (laidMet_of_run' 8 (by kernel_rfl) (by kernel_rfl)) (by kernel_rfl) (by kernel_rfl)

set_option maxRecDepth 100000 in
set_option maxHeartbeats 16000000 in
theorem walk_no (k : Nat) (hk : k < 18446744073709551616) (bt : Bool) (hmay : (Ent.mk 1 1 k 0 0 0).mayB = false) (w : World) (HTab : Hid (Tab w)) :
    Calls Tryd.prog 5 #[.int .u64 (k : Int), .bool bt] w fun e w' => e = .returned (.bool true) ∧ Below w.heap.size w w' := by
  have HMY : ∀ w, Calls Tryd.prog 10 #[.agg #[.int .i64 1, .int .u64 1, .int .u64 (k : Int), .int .u64 0, .int .u64 0, .int .u64 0]] w (Kept w (.bool false)) := fun w => by
    have h := refMay_any 1 1 k 0 0 0 hk w
    rw [hmay] at h
    exact h
  clear hmay hk
  go_enter Tryd.func5, Tryd.ntmps5
  go_wp2_with fail
  (with_reducible refine (savShown _ HTab).mono ?_)
  rintro e w1 ⟨rfl, hb⟩
  go_wp2_with fail
  (with_reducible refine (HMY _).mono ?_)
  rintro e w2 ⟨rfl, hb2⟩
  go_wp2_with fail
  go_ret
  exact ⟨rfl, hb.trans (hb2.mono hb.size)⟩

set_option maxRecDepth 100000 in
set_option maxHeartbeats 16000000 in
theorem walk_true (k : Nat) (hk : k < 18446744073709551616) (hmay : (Ent.mk 1 1 k 0 0 0).mayB = true) (w : World) (HTab : Hid (Tab w)) :
    Calls Tryd.prog 5 #[.int .u64 (k : Int), .bool true] w fun e w' => e = .returned (.bool true) ∧ Below w.heap.size w w' := by
  have HMY : ∀ w, Calls Tryd.prog 10 #[.agg #[.int .i64 1, .int .u64 1, .int .u64 (k : Int), .int .u64 0, .int .u64 0, .int .u64 0]] w (Kept w (.bool true)) := fun w => by
    have h := refMay_any 1 1 k 0 0 0 hk w
    rw [hmay] at h
    exact h
  obtain ⟨f, hf⟩ : ∃ f : Nat, f = 1 := ⟨_, rfl⟩
  have hf12 : f = 1 ∨ f = 2 := by omega
  have HN : ∀ w, Calls Tryd.prog 8 #[.int .i64 1, .int .i64 1] w (NewWd w 1 1 (sizeN 1 1) (newF 1 1)) := fun w => newWd_at 1 1 (by decide) (by decide) (by decide) w
  have hsz : sizeN 1 1 ≤ 1000000 := by decide
  have C1 : ∀ (A : Option Addr) (ka : Nat) (R : Option Addr) (ra : Nat) (S : Option Addr) (sa : Nat) (w : World), Hid (Tab w) → Hid (AtW w A (sizeN 1 1) (newF 1 1)) → Hid (StmsAt w R 1 (zerosS 1)) → Hid (StmsAt w S 1 (zerosS 1)) →
      Calls Tryd.prog 9 #[.agg #[.int .i64 1, .int .i64 1, .slice A (sizeN 1 1) ka, .int .u64 0, .slice R 1 ra, .slice S 1 sa], .int .i64 0, .agg #[.int .i64 20, .int .i64 1, .int .i64 0, .int .u64 (k : Int)], .int .i64 20, .slice none 0 0] w (AloneS w 1 1 A (sizeN 1 1) R S 1 (twG f k 0) (twL f k 0) (zerosS 1) 0 false 1) := fun A ka R ra S sa w h0 h1 h2 h3 => aloneN 1 (by decide) 0 (by decide) 1 20 1 0 k hk ⟨fun _ => by decide, fun h => absurd h (by decide)⟩ 20 (by decide) (sizeN 1 1) hsz (by decide) (newF 1 1) (zerosS 1) (zerosS 1) 1 (mkG 1 1 1 k, zerosS 1) 7 (tw_make hk) (by decide) A ka R ra S sa w h0 h1 h2 h3
  have HLO : ∀ i, i < 4 → ¬ 1 < i → ∀ (A : Option Addr) (ka : Nat) (R : Option Addr) (ra : Nat) (S : Option Addr) (sa : Nat) (w : World), Hid (Tab w) → Hid (AtW w A (sizeN 1 1) (twG f k i)) → Hid (StmsAt w R 1 (twL f k i)) → Hid (StmsAt w S 1 (zerosS 1)) →
      Calls Tryd.prog 9 #[.agg #[.int .i64 1, .int .i64 1, .slice A (sizeN 1 1) ka, .int .u64 0, .slice R 1 ra, .slice S 1 sa], .int .i64 0, .agg #[.int .i64 7, .int .i64 1, .int .i64 (twB f i : Int), .int .u64 0], .int .i64 20, .slice none 0 0] w (AloneS w 1 1 A (sizeN 1 1) R S 1 (twG f k (i + 1)) (twL f k (i + 1)) (zerosS 1) 0 true 0) := fun i hi hc A ka R ra S sa w h0 h1 h2 h3 => by
    obtain ⟨j, hj, hrun⟩ := tw_step (k := k) hk hf12 hi
    rw [if_neg hc] at hj
    have hbt := twB_or (i := i) hf12
    exact aloneN 1 (by decide) 0 (by decide) 1 7 1 (twB f i : Int) 0 (by decide) ⟨fun _ => by decide, fun _ => by omega⟩ 20 (by decide) (sizeN 1 1) hsz (by decide) (twG f k i) (twL f k i) (zerosS 1) 1 (twG f k (i + 1), twL f k (i + 1)) j hrun hj A ka R ra S sa w h0 h1 h2 h3
  have HHI : ∀ i, i < 4 → 1 < i → ∀ (A : Option Addr) (ka : Nat) (R : Option Addr) (ra : Nat) (S : Option Addr) (sa : Nat) (w : World), Hid (Tab w) → Hid (AtW w A (sizeN 1 1) (twG f k i)) → Hid (StmsAt w R 1 (twL f k i)) → Hid (StmsAt w S 1 (zerosS 1)) →
      Calls Tryd.prog 9 #[.agg #[.int .i64 1, .int .i64 1, .slice A (sizeN 1 1) ka, .int .u64 0, .slice R 1 ra, .slice S 1 sa], .int .i64 0, .agg #[.int .i64 7, .int .i64 1, .int .i64 (twB f i : Int), .int .u64 0], .int .i64 1, .slice none 0 0] w (AloneS w 1 1 A (sizeN 1 1) R S 1 (twG f k (i + 1)) (twL f k (i + 1)) (zerosS 1) 0 true 0) := fun i hi hc A ka R ra S sa w h0 h1 h2 h3 => by
    obtain ⟨j, hj, hrun⟩ := tw_step (k := k) hk hf12 hi
    rw [if_pos hc] at hj
    have hbt := twB_or (i := i) hf12
    exact aloneN 1 (by decide) 0 (by decide) 1 7 1 (twB f i : Int) 0 (by decide) ⟨fun _ => by decide, fun _ => by omega⟩ 1 (by decide) (sizeN 1 1) hsz (by decide) (twG f k i) (twL f k i) (zerosS 1) 1 (twG f k (i + 1), twL f k (i + 1)) j hrun hj A ka R ra S sa w h0 h1 h2 h3
  have hbits : ∀ i, i < 4 → [.int .i64 1, .int .i64 2, .int .i64 1, .int .i64 2][i]? = some (Value.int .i64 (twB f i : Int)) := by
    intro i hi
    subst hf
    obtain rfl | rfl | rfl | rfl : i = 0 ∨ i = 1 ∨ i = 2 ∨ i = 3 := by omega
    all_goals rfl
  have hmb : (Ent.mk 1 1 k 0 0 0).may := of_decide_eq_true hmay
  have hmd : (Ent.mk 2 1 0 0 0 0).may := of_decide_eq_true (by decide +kernel)
  have hfb : (Ent.mk 1 1 k 0 0 0).fit := ⟨show 1 < 18446744073709551616 by decide, hk, show 0 < 18446744073709551616 by decide, show 0 < 18446744073709551616 by decide, show 0 < 18446744073709551616 by decide⟩
  have hfd : (Ent.mk 2 1 0 0 0 0).fit := ⟨show 1 < 18446744073709551616 by decide, show 0 < 18446744073709551616 by decide, show 0 < 18446744073709551616 by decide, show 0 < 18446744073709551616 by decide, show 0 < 18446744073709551616 by decide⟩
  obtain ⟨xb, hxb⟩ : ∃ x, (Ent.mk 1 1 k 0 0 0).bytes = x := ⟨_, rfl⟩
  obtain ⟨xd, hxd⟩ : ∃ x, (Ent.mk 2 1 0 0 0 0).bytes = x := ⟨_, rfl⟩
  have HSP : Hid (splitN (twD f k 4) = [xb, xd]) := Lib.hid (by
    subst hf
    rw [← hxb, ← hxd]
    exact tw_split (f := 1) (by first | exact hmay | (show (Ent.mk 2 1 0 0 0 0).mayB = true; decide +kernel)) (by first | exact hmay | (show (Ent.mk 2 1 0 0 0 0).mayB = true; decide +kernel)))
  have HDB : ∀ (A : Option Addr) (len cap : Nat) (w : World), Hid (AtB w A len xb) → Calls Tryd.prog 18 #[.slice A len cap] w (DecPost w 1 1 k 0 0 0 0) := fun A len cap w h => by
    have hd := refDecode_at A len cap xb w h
    rw [← hxb, (dec_bytes hmb hfb).1, (dec_bytes hmb hfb).2] at hd
    exact hd
  have HDD : ∀ (A : Option Addr) (len cap : Nat) (w : World), Hid (AtB w A len xd) → Calls Tryd.prog 18 #[.slice A len cap] w (DecPost w 2 1 0 0 0 0 0) := fun A len cap w h => by
    have hd := refDecode_at A len cap xd w h
    rw [← hxd, (dec_bytes hmd hfd).1, (dec_bytes hmd hfd).2] at hd
    exact hd
  have HTL := Lib.hid (tw_len f k)
  have HBITS := Lib.hid hbits
  clear hf hbits hmb hmd hfb hfd hxb hxd hsz hf12 hmay hk
  generalize sizeN 1 1 = n at *
  generalize newF 1 1 = G0 at *
  go_enter Tryd.func5, Tryd.ntmps5
  go_wp2_with fail
  (with_reducible refine (savShown _ HTab).mono ?_)
  rintro e w1 ⟨rfl, hb⟩
  have BB := Lib.hid hb
  clear hb
  go_wp2_with fail
  (with_reducible refine (HMY _).mono ?_)
  clear HMY
  rintro e w2 ⟨rfl, hb⟩
  have BBn := Lib.hid (BB.out.trans (hb.mono BB.out.size)); clear BB; have BB := BBn; clear BBn
  clear hb
  go_wp2_with fail
  (with_reducible refine (HN _).mono ?_)
  clear HN
  rintro e w3 ⟨A0, ka0, R0, ra0, S0, sa0, rfl, ha, hs0, hs1, hb, _⟩
  have BBn := Lib.hid (BB.out.trans (hb.mono BB.out.size)); clear BB; have BB := BBn; clear BBn
  clear hb
  have HA := Lib.hid ha
  have HS0 := Lib.hid hs0
  have HS1 := Lib.hid hs1
  clear ha hs0 hs1
  go_wp2_with fail
  (with_reducible refine (C1 A0 ka0 R0 ra0 S0 sa0 _ (Tab.later HTab BB.out) HA HS0 HS1).mono ?_)
  clear C1 HA HS0 HS1
  rintro e w4 ⟨A1, ka1, R1, ra1, S1, sa1, rfl, ha, hs0, hs1, hb, _⟩
  go_upto_region 5 with fail
  have hbx : Below w4.heap.size w4 ((w4.alloc (.cells #[.int .i64 1, .int .i64 1, .slice A1 n ka1, .int .u64 0, .slice R1 1 ra1, .slice S1 1 sa1] 33)).alloc (.cells #[.int .i64 0, .bool false, .int .i64 0, .int .u64 1, .slice none 0 0] 38)) := below_pair _ _ _
  have HWD : Hid (WdFrom (fun b => b ≠ w4.heap.size) (fun _ => False) ((w4.alloc (.cells #[.int .i64 1, .int .i64 1, .slice A1 n ka1, .int .u64 0, .slice R1 1 ra1, .slice S1 1 sa1] 33)).alloc (.cells #[.int .i64 0, .bool false, .int .i64 0, .int .u64 1, .slice none 0 0] 38)) w4.heap.size 1 1 n 0 1 (twG f k 0) (twL f k 0) (zerosS 1)) := Lib.hid ⟨A1, ka1, R1, ra1, S1, sa1, WdAt.made (t := 1) (c := 1) (k := ka1) (r := 0) (ra := ra1) (sa := sa1) w4 (.cells #[.int .i64 0, .bool false, .int .i64 0, .int .u64 1, .slice none 0 0] 38) 33 ha hs0 hs1, ha.old.mono fun b hb => (by omega), (hs0.old.mono fun b hb => (by omega : b ≠ w4.heap.size)).later hs0 hbx, (hs1.old.mono fun b hb => (by omega : b ≠ w4.heap.size)).later hs1 hbx, fun P h => h.elim⟩
  have hbn := hb.trans (hbx.mono hb.size)
  have HG0 : Hid (w.heap.size ≤ w4.heap.size) := Lib.hid (Nat.le_trans BB.out.size hb.size)
  generalize (w4.alloc (.cells #[.int .i64 1, .int .i64 1, .slice A1 n ka1, .int .u64 0, .slice R1 1 ra1, .slice S1 1 sa1] 33)).alloc (.cells #[.int .i64 0, .bool false, .int .i64 0, .int .u64 1, .slice none 0 0] 38) = x1 at hbx hbn HWD ⊢
  generalize w4.heap.size = b0 at HWD HG0 ⊢
  have BBn := Lib.hid (BB.out.trans (hbn.mono BB.out.size)); clear BB; have BB := BBn; clear BBn
  clear hbn ha hs0 hs1 hb hbx
  go_upto_region 11 with fail
  have hba : Below x1.heap.size x1 (x1.alloc (.cells #[.int .i64 1, .int .i64 2, .int .i64 1, .int .i64 2] 3)) := al_below _ _
  have HBV := Lib.hid (VarAt.made x1 #[.int .i64 1, .int .i64 2, .int .i64 1, .int .i64 2] 3)
  have HNE : Hid (¬ (b0 = x1.heap.size)) := Lib.hid (by have := HWD.out.lt; omega)
  generalize x1.alloc (.cells #[.int .i64 1, .int .i64 2, .int .i64 1, .int .i64 2] 3) = x2 at hba HBV ⊢
  have HWDn := Lib.hid (HWD.out.later hba); clear HWD; have HWD := HWDn; clear HWDn
  have BBn := Lib.hid (BB.out.trans (hba.mono BB.out.size)); clear BB; have BB := BBn; clear BBn
  clear hba
  generalize x1.heap.size = bb at HBV HNE ⊢
  go_wp2_with fail
  go_loopw [11] (fun v wr => ∃ i : Nat, i ≤ 4 ∧ v = .int .i64 (i : Int) ∧ WdFrom (fun b => b ≠ b0) (fun _ => False) wr b0 1 1 n 0 1 (twG f k i) (twL f k i) (zerosS 1) ∧ VarAt wr bb [.int .i64 1, .int .i64 2, .int .i64 1, .int .i64 2] ∧ Below w.heap.size w wr) (fun v _ => 4 - (intOf v).toNat)
  case atStart => exact ⟨0, by omega, rfl, HWD.out, HBV.out, BB.out⟩
  case round =>
    clear HWD HBV BB
    obtain ⟨i, hik, rfl, hwd, hbv, hbl⟩ := hrel
    have HWD := Lib.hid hwd
    have HBV := Lib.hid hbv
    have BB := Lib.hid hbl
    clear hwd hbv hbl
    by_cases hlt : i < 4
    case pos =>
      have d0 : decide ((i : Int) < 4) = true := by rw [decide_eq_true_iff]; omega
      have d0' : decide (i < 4) = true := by rw [decide_eq_true_iff]; omega
      have i0 : (0 : Int) ≤ (i : Int) := by omega
      have i1 : (i : Int) < 4 := by omega
      have rB : ∀ w', Below wr.heap.size wr w' → w'.cell? ⟨bb, i, none⟩ = some (.int .i64 (twB f i : Int)) := fun w' hb => (HBV.out.below hb).2.1 i _ (HBITS.out i hlt)
      by_cases h1 : 1 < i
      case pos =>
        have d1 : decide ((1 : Int) < (i : Int)) = true := by rw [decide_eq_true_iff]; omega
        have d1' : decide (1 < i) = true := by rw [decide_eq_true_iff]; omega
        have HAL := HHI i hlt h1
        clear h1
        obtain ⟨A1, ka1, R1, ra1, S1, sa1, hW, o0, o1, o2, _⟩ := HWD.out
        have W1 := Lib.hid hW
        have O1 := Lib.hid (And.intro o0 (And.intro o1 o2))
        have HGlt := Lib.hid hW.1.1
        have HTw := Tab.later HTab BB.out
        clear hW o0 o1 o2
        go_upto_region 17 with fail
        have rC0 := fun w' (hb : Below wr.heap.size wr w') => (W1.out.later hb).cells.1
        have rC1 := fun w' (hb : Below wr.heap.size wr w') => (W1.out.later hb).cells.2.1
        have rC2 := fun w' (hb : Below wr.heap.size wr w') => (W1.out.later hb).cells.2.2.1
        have rC3 := fun w' (hb : Below wr.heap.size wr w') => (W1.out.later hb).cells.2.2.2.1
        have rC4 := fun w' (hb : Below wr.heap.size wr w') => (W1.out.later hb).cells.2.2.2.2.1
        have rC5 := fun w' (hb : Below wr.heap.size wr w') => (W1.out.later hb).cells.2.2.2.2.2
        have HB0 : Below wr.heap.size wr wr := Below.refl _ _
        have HQN : Hid (∀ b, wr.heap.size ≤ b → (fun b => b ≠ b0) b) := Lib.hid (fun b hb => by have := HGlt.out; simp only []; omega)
        go_cut [13, 14, 15] from 52 to 64 (fun s13 s14 s15 wx => AlS (fun b => b ≠ b0) 1 1 n 1 (twG f k (i + 1)) (twL f k (i + 1)) (zerosS 1) 0 true 0 wr b0 [.int .i64 1, .int .i64 1, .slice A1 n ka1, .int .u64 0, .slice R1 1 ra1, .slice S1 1 sa1] s13 s14 s15 wx)
        case first =>
          go_region_held3 (fun w' => Below wr.heap.size wr w') (repeat (first | with_reducible assumption | with_reducible refine Below.drew ?_ | with_reducible refine below_al ?_ | (with_reducible refine below_set1 (by omega) _ ?_)))
            (first | (go_at_call 9; (with_reducible refine (HAL A1 ka1 R1 ra1 S1 sa1 _ (Tab.later HTw (by repeat (first | with_reducible assumption | with_reducible refine Below.drew ?_ | with_reducible refine below_al ?_))) (W1.out.later (by repeat (first | with_reducible assumption | with_reducible refine Below.drew ?_ | with_reducible refine below_al ?_))).gA (W1.out.later (by repeat (first | with_reducible assumption | with_reducible refine Below.drew ?_ | with_reducible refine below_al ?_))).g0 (W1.out.later (by repeat (first | with_reducible assumption | with_reducible refine Below.drew ?_ | with_reducible refine below_al ?_))).g1).mono ?_); rintro e w4 ⟨A4, ka4, R4, ra4, S4, sa4, rfl, ha, hs0, hs1, hb, hP⟩; have hBw4 : Below wr.heap.size wr w4 := below_step hb (by repeat (first | with_reducible assumption | with_reducible refine Below.drew ?_ | with_reducible refine below_al ?_)); have hz4 := hBw4.size; have HA4 := Lib.hid ha; have HS4 := Lib.hid hs0; have HT4 := Lib.hid hs1; have HQ := Lib.hid (alone_arm (Q := (fun b => b ≠ b0)) (by repeat (first | with_reducible assumption | with_reducible refine Below.drew ?_ | with_reducible refine below_al ?_)) hb hP W1.out.2.1 W1.out.2.2.1 W1.out.2.2.2 O1.out.1 O1.out.2.1 O1.out.2.2 HQN.out); (try (have VBa : VarAt w4 wr.heap.size [.int .i64 0, .int .i64 0, .slice none 0 0, .int .u64 0, .slice none 0 0, .slice none 0 0] := VarAt.onto hb (VarAt.made wr #[.int .i64 0, .int .i64 0, .slice none 0 0, .int .u64 0, .slice none 0 0, .slice none 0 0] 33) rfl; obtain ⟨_, ⟨va0, va1, va2, va3, va4, va5⟩, wa0, wa1, wa2, wa3, wa4, wa5⟩ := VBa.six)); (try (have VBb : VarAt w4 wr.heap.size [.int .i64 0, .bool false, .int .i64 0, .int .u64 0, .slice none 0 0] := VarAt.onto hb (VarAt.made wr #[.int .i64 0, .bool false, .int .i64 0, .int .u64 0, .slice none 0 0] 38) rfl; obtain ⟨_, ⟨vb0, vb1, vb2, vb3, vb4⟩, wb0, wb1, wb2, wb3, wb4⟩ := VBb.five)); (try (have VBc : VarAt w4 (wr.heap.size + 1) [.int .i64 0, .bool false, .int .i64 0, .int .u64 0, .slice none 0 0] := VarAt.onto hb (VarAt.made1 wr (.cells #[.int .i64 0, .int .i64 0, .slice none 0 0, .int .u64 0, .slice none 0 0, .slice none 0 0] 33) #[.int .i64 0, .bool false, .int .i64 0, .int .u64 0, .slice none 0 0] 38) rfl; obtain ⟨_, ⟨vc0, vc1, vc2, vc3, vc4⟩, wc0, wc1, wc2, wc3, wc4⟩ := VBc.five)); (try (have VBd : VarAt w4 (wr.heap.size + 1) [.int .i64 0, .int .i64 0, .slice none 0 0, .int .u64 0, .slice none 0 0, .slice none 0 0] := VarAt.onto hb (VarAt.made1 wr (.cells #[.int .i64 0, .bool false, .int .i64 0, .int .u64 0, .slice none 0 0] 38) #[.int .i64 0, .int .i64 0, .slice none 0 0, .int .u64 0, .slice none 0 0, .slice none 0 0] 33) rfl; obtain ⟨_, ⟨vd0, vd1, vd2, vd3, vd4, vd5⟩, wd0, wd1, wd2, wd3, wd4, wd5⟩ := VBd.six)); (try (have VBe : VarAt w4 wr.heap.size [.int .i64 0, .int .i64 0, .slice none 0 0, .int .u64 0, .slice none 0 0, .slice none 0 0] := VarAt.onto hb ((VarAt.made wr #[.int .i64 0, .int .i64 0, .slice none 0 0, .int .u64 0, .slice none 0 0, .slice none 0 0] 33).below (al_below _ (.cells #[.int .i64 0, .bool false, .int .i64 0, .int .u64 0, .slice none 0 0] 38))) rfl; obtain ⟨_, ⟨ve0, ve1, ve2, ve3, ve4, ve5⟩, we0, we1, we2, we3, we4, we5⟩ := VBe.six)); (try (have VBf : VarAt w4 wr.heap.size [.int .i64 0, .bool false, .int .i64 0, .int .u64 0, .slice none 0 0] := VarAt.onto hb ((VarAt.made wr #[.int .i64 0, .bool false, .int .i64 0, .int .u64 0, .slice none 0 0] 38).below (al_below _ (.cells #[.int .i64 0, .int .i64 0, .slice none 0 0, .int .u64 0, .slice none 0 0, .slice none 0 0] 33))) rfl; obtain ⟨_, ⟨vf0, vf1, vf2, vf3, vf4⟩, wf0, wf1, wf2, wf3, wf4⟩ := VBf.five)); clear ha hs0 hs1 hb hP))
          all_goals
            go_wp2_with fail
            go_meet
            obtain ⟨N2, hN2, hN3, hN4, o0, o1, o2⟩ := HQ.out
            have hgz := HGlt.out
            simp at hN2
            obtain ⟨_, ⟨c0, c1, c2, c3, c4, c5⟩, q0, q1, q2, q3, q4, q5⟩ := (W1.out.later hBw4).1.six
            exact AlS.of (N2 := N2) (w4 := w4) (ka := ka4) (ra := ra4) (sa := sa4) (by repeat (first | with_reducible exact Keep.refl _ _ | with_reducible refine Keep.drew ?_ | with_reducible refine Keep.alloc ?_ _ | (with_reducible refine Keep.set ?_ _ _ _ (by unfold Qc; omega)))) (by omega) (by omega) (VarAt.of6 (by first | (simp; done) | (simp; omega) | omega) (by go_simp) (by go_simp) (by go_simp) (by go_simp) (by go_simp) (by go_simp) (by go_simp) (by go_simp) (by go_simp) (by go_simp) (by go_simp) (by go_simp)) (VarAt.mk5 (by first | (simp; done) | (simp; omega) | omega) (by go_simp) (by go_simp) (by go_simp) (by go_simp) (by go_simp) (by go_simp) (by go_simp) (by go_simp) (by go_simp) (by go_simp)) (VarAt.of6 (by first | (simp; done) | (simp; omega) | omega) (by go_simp) (by go_simp) (by go_simp) (by go_simp) (by go_simp) (by go_simp) (by go_simp) (by go_simp) (by go_simp) (by go_simp) (by go_simp) (by go_simp)) HA4.out HS4.out HT4.out o0 o1 o2 (by repeat (first | with_reducible assumption | with_reducible refine Below.drew ?_ | with_reducible refine below_al ?_ | (with_reducible refine below_set1 (by omega) _ ?_)))
        case rest =>
          obtain ⟨b1, b2, rfl, rfl, rfl, n1, n2, ⟨A3, ka3, R3, ra3, S3, sa3, hw3, o0, o1, o2⟩, hv2, hvg, hby⟩ := hcut
          clear HAL rC0 rC1 rC2 rC3 rC4 rC5 HB0 HQN rB
          have hlt0 := HGlt.out
          have hne := HNE.out
          have m1 : ¬ (b1 = b0) := by omega
          have m2 : ¬ (b0 = b1) := by omega
          have m3 : ¬ (b2 = b0) := by omega
          have m4 : ¬ (b0 = b2) := by omega
          have W3 := Lib.hid hw3
          have OF3 := Lib.hid (And.intro o0 (And.intro o1 o2))
          have HV2 := Lib.hid hv2
          have HVG := Lib.hid hvg
          have BBn := Lib.hid (BB.out.trans (hby.mono BB.out.size)); clear BB; have BB := BBn; clear BBn
          have HBVn := Lib.hid (HBV.out.below hby); clear HBV; have HBV := HBVn; clear HBVn
          obtain ⟨_, ⟨e0, e1, e2, e3, e4, e5⟩, _⟩ := hw3.1.six
          obtain ⟨zx, ⟨y0, y1, y2, y3, y4, y5⟩, f0, f1, f2, f3, f4, f5⟩ := hvg.six
          obtain ⟨_, ⟨p1, p2, p3, p4, p5⟩, _⟩ := hv2.five
          have hg0 := HG0.out
          clear hw3 hv2 hvg hby n1 n2 o0 o1 o2 W1 O1 HGlt HWD
          go_upto_region 13 with fail
          have hbb := BB.out
          refine gen_at (P := fun W => Code.wp _ _ _ _ W) (fun z => WdFrom (fun b => b ≠ b0) (fun _ => False) z b0 1 1 n 0 1 (twG f k (i + 1)) (twL f k (i + 1)) (zerosS 1) ∧ VarAt z bb [.int .i64 1, .int .i64 2, .int .i64 1, .int .i64 2] ∧ Below w.heap.size w z) ⟨⟨A3, ka3, R3, ra3, S3, sa3, ⟨VarAt.of6 (by simp; omega) (by go_simp) (by go_simp) (by go_simp) (by go_simp) (by go_simp) (by go_simp) (by go_simp) (by go_simp) (by go_simp) (by go_simp) (by go_simp) (by go_simp), W3.out.2.1.keep (Q := fun b => b ≠ b0) (by repeat (first | with_reducible exact Keep.refl _ _ | with_reducible refine Keep.drew ?_ | with_reducible refine Keep.alloc ?_ _ | (with_reducible refine Keep.set ?_ _ _ _ (by omega)))) OF3.out.1, W3.out.2.2.1.keep (Q := fun b => b ≠ b0) (by repeat (first | with_reducible exact Keep.refl _ _ | with_reducible refine Keep.drew ?_ | with_reducible refine Keep.alloc ?_ _ | (with_reducible refine Keep.set ?_ _ _ _ (by omega)))) OF3.out.2.1, W3.out.2.2.2.keep (Q := fun b => b ≠ b0) (by repeat (first | with_reducible exact Keep.refl _ _ | with_reducible refine Keep.drew ?_ | with_reducible refine Keep.alloc ?_ _ | (with_reducible refine Keep.set ?_ _ _ _ (by omega)))) OF3.out.2.2⟩, OF3.out.1, OF3.out.2.1.keep W3.out.2.2.1 (Q := fun b => b ≠ b0) (by repeat (first | with_reducible exact Keep.refl _ _ | with_reducible refine Keep.drew ?_ | with_reducible refine Keep.alloc ?_ _ | (with_reducible refine Keep.set ?_ _ _ _ (by omega)))) OF3.out.2.1, OF3.out.2.2.keep W3.out.2.2.2 (Q := fun b => b ≠ b0) (by repeat (first | with_reducible exact Keep.refl _ _ | with_reducible refine Keep.drew ?_ | with_reducible refine Keep.alloc ?_ _ | (with_reducible refine Keep.set ?_ _ _ _ (by omega)))) OF3.out.2.2, fun P h => h.elim⟩, (by repeat (first | with_reducible exact HBV.out | (with_reducible refine VarAt.apart ?_ _ _ (by omega)))), (by repeat (first | with_reducible assumption | with_reducible refine Below.drew ?_ | with_reducible refine below_al ?_ | (with_reducible refine below_set1 (by omega) _ ?_)))⟩ ?_
          rintro z ⟨hz, hz2, hbz⟩
          clear W3 OF3 HV2 HVG e0 e1 e2 e3 e4 e5 y0 y1 y2 y3 y4 y5 f0 f1 f2 f3 f4 f5 zx p1 p2 p3 p4 p5 hbb hg0 BB HBV
          go_wp2_with fail
          go_roundw
          case rel => exact ⟨i + 1, by omega, by go_num, hz, hz2, hbz⟩
          case measure => simp [intOf]; omega
      case neg =>
        have d1 : decide ((1 : Int) < (i : Int)) = false := by rw [decide_eq_false_iff_not]; omega
        have d1' : decide (1 < i) = false := by rw [decide_eq_false_iff_not]; omega
        have HAL := HLO i hlt h1
        clear h1
        obtain ⟨A1, ka1, R1, ra1, S1, sa1, hW, o0, o1, o2, _⟩ := HWD.out
        have W1 := Lib.hid hW
        have O1 := Lib.hid (And.intro o0 (And.intro o1 o2))
        have HGlt := Lib.hid hW.1.1
        have HTw := Tab.later HTab BB.out
        clear hW o0 o1 o2
        go_upto_region 17 with fail
        have rC0 := fun w' (hb : Below wr.heap.size wr w') => (W1.out.later hb).cells.1
        have rC1 := fun w' (hb : Below wr.heap.size wr w') => (W1.out.later hb).cells.2.1
        have rC2 := fun w' (hb : Below wr.heap.size wr w') => (W1.out.later hb).cells.2.2.1
        have rC3 := fun w' (hb : Below wr.heap.size wr w') => (W1.out.later hb).cells.2.2.2.1
        have rC4 := fun w' (hb : Below wr.heap.size wr w') => (W1.out.later hb).cells.2.2.2.2.1
        have rC5 := fun w' (hb : Below wr.heap.size wr w') => (W1.out.later hb).cells.2.2.2.2.2
        have HB0 : Below wr.heap.size wr wr := Below.refl _ _
        have HQN : Hid (∀ b, wr.heap.size ≤ b → (fun b => b ≠ b0) b) := Lib.hid (fun b hb => by have := HGlt.out; simp only []; omega)
        go_cut [13, 14, 15] from 52 to 64 (fun s13 s14 s15 wx => AlS (fun b => b ≠ b0) 1 1 n 1 (twG f k (i + 1)) (twL f k (i + 1)) (zerosS 1) 0 true 0 wr b0 [.int .i64 1, .int .i64 1, .slice A1 n ka1, .int .u64 0, .slice R1 1 ra1, .slice S1 1 sa1] s13 s14 s15 wx)
        case first =>
          go_region_held3 (fun w' => Below wr.heap.size wr w') (repeat (first | with_reducible assumption | with_reducible refine Below.drew ?_ | with_reducible refine below_al ?_ | (with_reducible refine below_set1 (by omega) _ ?_)))
            (first | (go_at_call 9; (with_reducible refine (HAL A1 ka1 R1 ra1 S1 sa1 _ (Tab.later HTw (by repeat (first | with_reducible assumption | with_reducible refine Below.drew ?_ | with_reducible refine below_al ?_))) (W1.out.later (by repeat (first | with_reducible assumption | with_reducible refine Below.drew ?_ | with_reducible refine below_al ?_))).gA (W1.out.later (by repeat (first | with_reducible assumption | with_reducible refine Below.drew ?_ | with_reducible refine below_al ?_))).g0 (W1.out.later (by repeat (first | with_reducible assumption | with_reducible refine Below.drew ?_ | with_reducible refine below_al ?_))).g1).mono ?_); rintro e w4 ⟨A4, ka4, R4, ra4, S4, sa4, rfl, ha, hs0, hs1, hb, hP⟩; have hBw4 : Below wr.heap.size wr w4 := below_step hb (by repeat (first | with_reducible assumption | with_reducible refine Below.drew ?_ | with_reducible refine below_al ?_)); have hz4 := hBw4.size; have HA4 := Lib.hid ha; have HS4 := Lib.hid hs0; have HT4 := Lib.hid hs1; have HQ := Lib.hid (alone_arm (Q := (fun b => b ≠ b0)) (by repeat (first | with_reducible assumption | with_reducible refine Below.drew ?_ | with_reducible refine below_al ?_)) hb hP W1.out.2.1 W1.out.2.2.1 W1.out.2.2.2 O1.out.1 O1.out.2.1 O1.out.2.2 HQN.out); (try (have VBa : VarAt w4 wr.heap.size [.int .i64 0, .int .i64 0, .slice none 0 0, .int .u64 0, .slice none 0 0, .slice none 0 0] := VarAt.onto hb (VarAt.made wr #[.int .i64 0, .int .i64 0, .slice none 0 0, .int .u64 0, .slice none 0 0, .slice none 0 0] 33) rfl; obtain ⟨_, ⟨va0, va1, va2, va3, va4, va5⟩, wa0, wa1, wa2, wa3, wa4, wa5⟩ := VBa.six)); (try (have VBb : VarAt w4 wr.heap.size [.int .i64 0, .bool false, .int .i64 0, .int .u64 0, .slice none 0 0] := VarAt.onto hb (VarAt.made wr #[.int .i64 0, .bool false, .int .i64 0, .int .u64 0, .slice none 0 0] 38) rfl; obtain ⟨_, ⟨vb0, vb1, vb2, vb3, vb4⟩, wb0, wb1, wb2, wb3, wb4⟩ := VBb.five)); (try (have VBc : VarAt w4 (wr.heap.size + 1) [.int .i64 0, .bool false, .int .i64 0, .int .u64 0, .slice none 0 0] := VarAt.onto hb (VarAt.made1 wr (.cells #[.int .i64 0, .int .i64 0, .slice none 0 0, .int .u64 0, .slice none 0 0, .slice none 0 0] 33) #[.int .i64 0, .bool false, .int .i64 0, .int .u64 0, .slice none 0 0] 38) rfl; obtain ⟨_, ⟨vc0, vc1, vc2, vc3, vc4⟩, wc0, wc1, wc2, wc3, wc4⟩ := VBc.five)); (try (have VBd : VarAt w4 (wr.heap.size + 1) [.int .i64 0, .int .i64 0, .slice none 0 0, .int .u64 0, .slice none 0 0, .slice none 0 0] := VarAt.onto hb (VarAt.made1 wr (.cells #[.int .i64 0, .bool false, .int .i64 0, .int .u64 0, .slice none 0 0] 38) #[.int .i64 0, .int .i64 0, .slice none 0 0, .int .u64 0, .slice none 0 0, .slice none 0 0] 33) rfl; obtain ⟨_, ⟨vd0, vd1, vd2, vd3, vd4, vd5⟩, wd0, wd1, wd2, wd3, wd4, wd5⟩ := VBd.six)); (try (have VBe : VarAt w4 wr.heap.size [.int .i64 0, .int .i64 0, .slice none 0 0, .int .u64 0, .slice none 0 0, .slice none 0 0] := VarAt.onto hb ((VarAt.made wr #[.int .i64 0, .int .i64 0, .slice none 0 0, .int .u64 0, .slice none 0 0, .slice none 0 0] 33).below (al_below _ (.cells #[.int .i64 0, .bool false, .int .i64 0, .int .u64 0, .slice none 0 0] 38))) rfl; obtain ⟨_, ⟨ve0, ve1, ve2, ve3, ve4, ve5⟩, we0, we1, we2, we3, we4, we5⟩ := VBe.six)); (try (have VBf : VarAt w4 wr.heap.size [.int .i64 0, .bool false, .int .i64 0, .int .u64 0, .slice none 0 0] := VarAt.onto hb ((VarAt.made wr #[.int .i64 0, .bool false, .int .i64 0, .int .u64 0, .slice none 0 0] 38).below (al_below _ (.cells #[.int .i64 0, .int .i64 0, .slice none 0 0, .int .u64 0, .slice none 0 0, .slice none 0 0] 33))) rfl; obtain ⟨_, ⟨vf0, vf1, vf2, vf3, vf4⟩, wf0, wf1, wf2, wf3, wf4⟩ := VBf.five)); clear ha hs0 hs1 hb hP))
          all_goals
            go_wp2_with fail
            go_meet
            obtain ⟨N2, hN2, hN3, hN4, o0, o1, o2⟩ := HQ.out
            have hgz := HGlt.out
            simp at hN2
            obtain ⟨_, ⟨c0, c1, c2, c3, c4, c5⟩, q0, q1, q2, q3, q4, q5⟩ := (W1.out.later hBw4).1.six
            exact AlS.of (N2 := N2) (w4 := w4) (ka := ka4) (ra := ra4) (sa := sa4) (by repeat (first | with_reducible exact Keep.refl _ _ | with_reducible refine Keep.drew ?_ | with_reducible refine Keep.alloc ?_ _ | (with_reducible refine Keep.set ?_ _ _ _ (by unfold Qc; omega)))) (by omega) (by omega) (VarAt.of6 (by first | (simp; done) | (simp; omega) | omega) (by go_simp) (by go_simp) (by go_simp) (by go_simp) (by go_simp) (by go_simp) (by go_simp) (by go_simp) (by go_simp) (by go_simp) (by go_simp) (by go_simp)) (VarAt.mk5 (by first | (simp; done) | (simp; omega) | omega) (by go_simp) (by go_simp) (by go_simp) (by go_simp) (by go_simp) (by go_simp) (by go_simp) (by go_simp) (by go_simp) (by go_simp)) (VarAt.of6 (by first | (simp; done) | (simp; omega) | omega) (by go_simp) (by go_simp) (by go_simp) (by go_simp) (by go_simp) (by go_simp) (by go_simp) (by go_simp) (by go_simp) (by go_simp) (by go_simp) (by go_simp)) HA4.out HS4.out HT4.out o0 o1 o2 (by repeat (first | with_reducible assumption | with_reducible refine Below.drew ?_ | with_reducible refine below_al ?_ | (with_reducible refine below_set1 (by omega) _ ?_)))
        case rest =>
          obtain ⟨b1, b2, rfl, rfl, rfl, n1, n2, ⟨A3, ka3, R3, ra3, S3, sa3, hw3, o0, o1, o2⟩, hv2, hvg, hby⟩ := hcut
          clear HAL rC0 rC1 rC2 rC3 rC4 rC5 HB0 HQN rB
          have hlt0 := HGlt.out
          have hne := HNE.out
          have m1 : ¬ (b1 = b0) := by omega
          have m2 : ¬ (b0 = b1) := by omega
          have m3 : ¬ (b2 = b0) := by omega
          have m4 : ¬ (b0 = b2) := by omega
          have W3 := Lib.hid hw3
          have OF3 := Lib.hid (And.intro o0 (And.intro o1 o2))
          have HV2 := Lib.hid hv2
          have HVG := Lib.hid hvg
          have BBn := Lib.hid (BB.out.trans (hby.mono BB.out.size)); clear BB; have BB := BBn; clear BBn
          have HBVn := Lib.hid (HBV.out.below hby); clear HBV; have HBV := HBVn; clear HBVn
          obtain ⟨_, ⟨e0, e1, e2, e3, e4, e5⟩, _⟩ := hw3.1.six
          obtain ⟨zx, ⟨y0, y1, y2, y3, y4, y5⟩, f0, f1, f2, f3, f4, f5⟩ := hvg.six
          obtain ⟨_, ⟨p1, p2, p3, p4, p5⟩, _⟩ := hv2.five
          have hg0 := HG0.out
          clear hw3 hv2 hvg hby n1 n2 o0 o1 o2 W1 O1 HGlt HWD
          go_upto_region 13 with fail
          have hbb := BB.out
          refine gen_at (P := fun W => Code.wp _ _ _ _ W) (fun z => WdFrom (fun b => b ≠ b0) (fun _ => False) z b0 1 1 n 0 1 (twG f k (i + 1)) (twL f k (i + 1)) (zerosS 1) ∧ VarAt z bb [.int .i64 1, .int .i64 2, .int .i64 1, .int .i64 2] ∧ Below w.heap.size w z) ⟨⟨A3, ka3, R3, ra3, S3, sa3, ⟨VarAt.of6 (by simp; omega) (by go_simp) (by go_simp) (by go_simp) (by go_simp) (by go_simp) (by go_simp) (by go_simp) (by go_simp) (by go_simp) (by go_simp) (by go_simp) (by go_simp), W3.out.2.1.keep (Q := fun b => b ≠ b0) (by repeat (first | with_reducible exact Keep.refl _ _ | with_reducible refine Keep.drew ?_ | with_reducible refine Keep.alloc ?_ _ | (with_reducible refine Keep.set ?_ _ _ _ (by omega)))) OF3.out.1, W3.out.2.2.1.keep (Q := fun b => b ≠ b0) (by repeat (first | with_reducible exact Keep.refl _ _ | with_reducible refine Keep.drew ?_ | with_reducible refine Keep.alloc ?_ _ | (with_reducible refine Keep.set ?_ _ _ _ (by omega)))) OF3.out.2.1, W3.out.2.2.2.keep (Q := fun b => b ≠ b0) (by repeat (first | with_reducible exact Keep.refl _ _ | with_reducible refine Keep.drew ?_ | with_reducible refine Keep.alloc ?_ _ | (with_reducible refine Keep.set ?_ _ _ _ (by omega)))) OF3.out.2.2⟩, OF3.out.1, OF3.out.2.1.keep W3.out.2.2.1 (Q := fun b => b ≠ b0) (by repeat (first | with_reducible exact Keep.refl _ _ | with_reducible refine Keep.drew ?_ | with_reducible refine Keep.alloc ?_ _ | (with_reducible refine Keep.set ?_ _ _ _ (by omega)))) OF3.out.2.1, OF3.out.2.2.keep W3.out.2.2.2 (Q := fun b => b ≠ b0) (by repeat (first | with_reducible exact Keep.refl _ _ | with_reducible refine Keep.drew ?_ | with_reducible refine Keep.alloc ?_ _ | (with_reducible refine Keep.set ?_ _ _ _ (by omega)))) OF3.out.2.2, fun P h => h.elim⟩, (by repeat (first | with_reducible exact HBV.out | (with_reducible refine VarAt.apart ?_ _ _ (by omega)))), (by repeat (first | with_reducible assumption | with_reducible refine Below.drew ?_ | with_reducible refine below_al ?_ | (with_reducible refine below_set1 (by omega) _ ?_)))⟩ ?_
          rintro z ⟨hz, hz2, hbz⟩
          clear W3 OF3 HV2 HVG e0 e1 e2 e3 e4 e5 y0 y1 y2 y3 y4 y5 f0 f1 f2 f3 f4 f5 zx p1 p2 p3 p4 p5 hbb hg0 BB HBV
          go_wp2_with fail
          go_roundw
          case rel => exact ⟨i + 1, by omega, by go_num, hz, hz2, hbz⟩
          case measure => simp [intOf]; omega
    case neg =>
      obtain rfl : i = 4 := by omega
      clear HLO HHI HBV HNE HBITS
      obtain ⟨A1, ka1, R1, ra1, S1, sa1, hW, _, _, _, _⟩ := HWD.out
      obtain ⟨g2, f2, rfl, hg2, hc2⟩ := hW.2.2.1.2.2 (by decide)
      obtain ⟨_, _, _, _, c4, _⟩ := hW.cells
      obtain ⟨D2, q2, z20, z21, z22, z23, z24, z25⟩ := hc2 0 _ rfl
      dsimp only at z20 z21 z23
      rw [show f2 + 0 * 2 = f2 by omega] at z20
      have HAT := Lib.hid z23
      obtain ⟨nd, hnd⟩ : ∃ m, (twD f k 4).length = m := ⟨_, rfl⟩
      have htl := HTL.out
      rw [hnd] at z20 z21 HAT htl
      clear hc2 z22 z23 z24 z25 hW HWD hnd
      generalize twD f k 4 = dd at *
      go_wp2_with fail
      (with_reducible refine (refSplit_at D2 nd q2 dd z21 (by omega) _ HAT).mono ?_)
      rintro e w5 ⟨v5, rfl, hO5, hb5⟩
      rw [HSP.out] at hO5
      obtain ⟨A5, k5, rfl, hk5, hat5⟩ := hO5.atC
      have BBn := Lib.hid (BB.out.trans (hb5.mono BB.out.size)); clear BB; have BB := BBn; clear BBn
      obtain ⟨g5, f5, rfl, hg5, hc5⟩ := hat5.2 (by simp)
      obtain ⟨A6, n6, k6, u0, u1, u2⟩ := hc5 0 (by simp)
      obtain ⟨A7, n7, k7, t0, t1, t2⟩ := hc5 1 (by simp)
      have HA6 := Lib.hid u2
      have HA7 := Lib.hid t2
      rw [show f5 + 0 = f5 by omega] at u0
      clear hc5 hat5 hO5 u1 u2 t1 t2 c4 z20 z21 hg2 HAT hb5
      rw [HSP.out]
      go_wp2_with fail
      (with_reducible refine (HDB A6 n6 k6 _ HA6).mono ?_)
      rintro e w6 ⟨rfl, hb6⟩
      have t0' := (hb6.cell hg5).trans t0
      have BBn := Lib.hid (BB.out.trans (hb6.mono BB.out.size)); clear BB; have BB := BBn; clear BBn
      have HA7n := Lib.hid (HA7.out.below hb6 (Nat.le_refl _)); clear HA7; have HA7 := HA7n; clear HA7n
      have hlt6 : g5 < w6.heap.size := Nat.lt_of_lt_of_le hg5 hb6.size
      have HS6 : Hid (w.heap.size ≤ w6.heap.size) := Lib.hid BB.out.size
      clear u0 t0 hg5 hb6 HA6
      go_upto_region 27 with fail
      have hbx : Below w6.heap.size w6 (w6.alloc (.cells #[.int .i64 1, .int .u64 1, .int .u64 (k : Int), .int .u64 0, .int .u64 0, .int .u64 0] 44)) := al_below _ _
      have V6 := Lib.hid (VarAt.made w6 #[.int .i64 1, .int .u64 1, .int .u64 (k : Int), .int .u64 0, .int .u64 0, .int .u64 0] 44)
      generalize w6.alloc (.cells #[.int .i64 1, .int .u64 1, .int .u64 (k : Int), .int .u64 0, .int .u64 0, .int .u64 0] 44) = x6 at hbx V6 ⊢
      have t1 := (hbx.cell hlt6).trans t0'
      have BBn := Lib.hid (BB.out.trans (hbx.mono BB.out.size)); clear BB; have BB := BBn; clear BBn
      have HA7n := Lib.hid (HA7.out.below hbx (Nat.le_refl _)); clear HA7; have HA7 := HA7n; clear HA7n
      generalize w6.heap.size = e6 at V6 HS6 ⊢
      clear hbx t0' hlt6
      go_wp2_with fail
      (with_reducible refine (HDD A7 n7 k7 _ HA7).mono ?_)
      rintro e w8 ⟨rfl, hb8⟩
      have BBn := Lib.hid (BB.out.trans (hb8.mono BB.out.size)); clear BB; have BB := BBn; clear BBn
      obtain ⟨zc, ⟨c0, c1, c2, c3, c4, c5⟩, q0, q1, q2', q3, q4, q5⟩ := (V6.out.below hb8).six
      have hbb := BB.out
      have hs6 := HS6.out
      clear hb8 t1 HA7
      go_wp2_with fail
      go_ret
      exact ⟨rfl, (by repeat (first | with_reducible assumption | with_reducible refine Below.drew ?_ | with_reducible refine below_al ?_ | (with_reducible refine below_set1 (by omega) _ ?_)))⟩

set_option maxRecDepth 100000 in
set_option maxHeartbeats 16000000 in
theorem walk_false (k : Nat) (hk : k < 18446744073709551616) (hmay : (Ent.mk 1 1 k 0 0 0).mayB = true) (w : World) (HTab : Hid (Tab w)) :
    Calls Tryd.prog 5 #[.int .u64 (k : Int), .bool false] w fun e w' => e = .returned (.bool true) ∧ Below w.heap.size w w' := by
  have HMY : ∀ w, Calls Tryd.prog 10 #[.agg #[.int .i64 1, .int .u64 1, .int .u64 (k : Int), .int .u64 0, .int .u64 0, .int .u64 0]] w (Kept w (.bool true)) := fun w => by
    have h := refMay_any 1 1 k 0 0 0 hk w
    rw [hmay] at h
    exact h
  obtain ⟨f, hf⟩ : ∃ f : Nat, f = 2 := ⟨_, rfl⟩
  have hf12 : f = 1 ∨ f = 2 := by omega
  have HN : ∀ w, Calls Tryd.prog 8 #[.int .i64 1, .int .i64 1] w (NewWd w 1 1 (sizeN 1 1) (newF 1 1)) := fun w => newWd_at 1 1 (by decide) (by decide) (by decide) w
  have hsz : sizeN 1 1 ≤ 1000000 := by decide
  have C1 : ∀ (A : Option Addr) (ka : Nat) (R : Option Addr) (ra : Nat) (S : Option Addr) (sa : Nat) (w : World), Hid (Tab w) → Hid (AtW w A (sizeN 1 1) (newF 1 1)) → Hid (StmsAt w R 1 (zerosS 1)) → Hid (StmsAt w S 1 (zerosS 1)) →
      Calls Tryd.prog 9 #[.agg #[.int .i64 1, .int .i64 1, .slice A (sizeN 1 1) ka, .int .u64 0, .slice R 1 ra, .slice S 1 sa], .int .i64 0, .agg #[.int .i64 20, .int .i64 1, .int .i64 0, .int .u64 (k : Int)], .int .i64 20, .slice none 0 0] w (AloneS w 1 1 A (sizeN 1 1) R S 1 (twG f k 0) (twL f k 0) (zerosS 1) 0 false 1) := fun A ka R ra S sa w h0 h1 h2 h3 => aloneN 1 (by decide) 0 (by decide) 1 20 1 0 k hk ⟨fun _ => by decide, fun h => absurd h (by decide)⟩ 20 (by decide) (sizeN 1 1) hsz (by decide) (newF 1 1) (zerosS 1) (zerosS 1) 1 (mkG 1 1 1 k, zerosS 1) 7 (tw_make hk) (by decide) A ka R ra S sa w h0 h1 h2 h3
  have HLO : ∀ i, i < 4 → ¬ 1 < i → ∀ (A : Option Addr) (ka : Nat) (R : Option Addr) (ra : Nat) (S : Option Addr) (sa : Nat) (w : World), Hid (Tab w) → Hid (AtW w A (sizeN 1 1) (twG f k i)) → Hid (StmsAt w R 1 (twL f k i)) → Hid (StmsAt w S 1 (zerosS 1)) →
      Calls Tryd.prog 9 #[.agg #[.int .i64 1, .int .i64 1, .slice A (sizeN 1 1) ka, .int .u64 0, .slice R 1 ra, .slice S 1 sa], .int .i64 0, .agg #[.int .i64 7, .int .i64 1, .int .i64 (twB f i : Int), .int .u64 0], .int .i64 20, .slice none 0 0] w (AloneS w 1 1 A (sizeN 1 1) R S 1 (twG f k (i + 1)) (twL f k (i + 1)) (zerosS 1) 0 true 0) := fun i hi hc A ka R ra S sa w h0 h1 h2 h3 => by
    obtain ⟨j, hj, hrun⟩ := tw_step (k := k) hk hf12 hi
    rw [if_neg hc] at hj
    have hbt := twB_or (i := i) hf12
    exact aloneN 1 (by decide) 0 (by decide) 1 7 1 (twB f i : Int) 0 (by decide) ⟨fun _ => by decide, fun _ => by omega⟩ 20 (by decide) (sizeN 1 1) hsz (by decide) (twG f k i) (twL f k i) (zerosS 1) 1 (twG f k (i + 1), twL f k (i + 1)) j hrun hj A ka R ra S sa w h0 h1 h2 h3
  have HHI : ∀ i, i < 4 → 1 < i → ∀ (A : Option Addr) (ka : Nat) (R : Option Addr) (ra : Nat) (S : Option Addr) (sa : Nat) (w : World), Hid (Tab w) → Hid (AtW w A (sizeN 1 1) (twG f k i)) → Hid (StmsAt w R 1 (twL f k i)) → Hid (StmsAt w S 1 (zerosS 1)) →
      Calls Tryd.prog 9 #[.agg #[.int .i64 1, .int .i64 1, .slice A (sizeN 1 1) ka, .int .u64 0, .slice R 1 ra, .slice S 1 sa], .int .i64 0, .agg #[.int .i64 7, .int .i64 1, .int .i64 (twB f i : Int), .int .u64 0], .int .i64 1, .slice none 0 0] w (AloneS w 1 1 A (sizeN 1 1) R S 1 (twG f k (i + 1)) (twL f k (i + 1)) (zerosS 1) 0 true 0) := fun i hi hc A ka R ra S sa w h0 h1 h2 h3 => by
    obtain ⟨j, hj, hrun⟩ := tw_step (k := k) hk hf12 hi
    rw [if_pos hc] at hj
    have hbt := twB_or (i := i) hf12
    exact aloneN 1 (by decide) 0 (by decide) 1 7 1 (twB f i : Int) 0 (by decide) ⟨fun _ => by decide, fun _ => by omega⟩ 1 (by decide) (sizeN 1 1) hsz (by decide) (twG f k i) (twL f k i) (zerosS 1) 1 (twG f k (i + 1), twL f k (i + 1)) j hrun hj A ka R ra S sa w h0 h1 h2 h3
  have hbits : ∀ i, i < 4 → [.int .i64 2, .int .i64 1, .int .i64 2, .int .i64 1][i]? = some (Value.int .i64 (twB f i : Int)) := by
    intro i hi
    subst hf
    obtain rfl | rfl | rfl | rfl : i = 0 ∨ i = 1 ∨ i = 2 ∨ i = 3 := by omega
    all_goals rfl
  have hmb : (Ent.mk 1 1 k 0 0 0).may := of_decide_eq_true hmay
  have hmd : (Ent.mk 2 1 0 0 0 0).may := of_decide_eq_true (by decide +kernel)
  have hfb : (Ent.mk 1 1 k 0 0 0).fit := ⟨show 1 < 18446744073709551616 by decide, hk, show 0 < 18446744073709551616 by decide, show 0 < 18446744073709551616 by decide, show 0 < 18446744073709551616 by decide⟩
  have hfd : (Ent.mk 2 1 0 0 0 0).fit := ⟨show 1 < 18446744073709551616 by decide, show 0 < 18446744073709551616 by decide, show 0 < 18446744073709551616 by decide, show 0 < 18446744073709551616 by decide, show 0 < 18446744073709551616 by decide⟩
  obtain ⟨xb, hxb⟩ : ∃ x, (Ent.mk 1 1 k 0 0 0).bytes = x := ⟨_, rfl⟩
  obtain ⟨xd, hxd⟩ : ∃ x, (Ent.mk 2 1 0 0 0 0).bytes = x := ⟨_, rfl⟩
  have HSP : Hid (splitN (twD f k 4) = [xd, xb]) := Lib.hid (by
    subst hf
    rw [← hxb, ← hxd]
    exact tw_split (f := 2) (by first | exact hmay | (show (Ent.mk 2 1 0 0 0 0).mayB = true; decide +kernel)) (by first | exact hmay | (show (Ent.mk 2 1 0 0 0 0).mayB = true; decide +kernel)))
  have HDB : ∀ (A : Option Addr) (len cap : Nat) (w : World), Hid (AtB w A len xb) → Calls Tryd.prog 18 #[.slice A len cap] w (DecPost w 1 1 k 0 0 0 0) := fun A len cap w h => by
    have hd := refDecode_at A len cap xb w h
    rw [← hxb, (dec_bytes hmb hfb).1, (dec_bytes hmb hfb).2] at hd
    exact hd
  have HDD : ∀ (A : Option Addr) (len cap : Nat) (w : World), Hid (AtB w A len xd) → Calls Tryd.prog 18 #[.slice A len cap] w (DecPost w 2 1 0 0 0 0 0) := fun A len cap w h => by
    have hd := refDecode_at A len cap xd w h
    rw [← hxd, (dec_bytes hmd hfd).1, (dec_bytes hmd hfd).2] at hd
    exact hd
  have HTL := Lib.hid (tw_len f k)
  have HBITS := Lib.hid hbits
  clear hf hbits hmb hmd hfb hfd hxb hxd hsz hf12 hmay hk
  generalize sizeN 1 1 = n at *
  generalize newF 1 1 = G0 at *
  go_enter Tryd.func5, Tryd.ntmps5
  go_wp2_with fail
  (with_reducible refine (savShown _ HTab).mono ?_)
  rintro e w1 ⟨rfl, hb⟩
  have BB := Lib.hid hb
  clear hb
  go_wp2_with fail
  (with_reducible refine (HMY _).mono ?_)
  clear HMY
  rintro e w2 ⟨rfl, hb⟩
  have BBn := Lib.hid (BB.out.trans (hb.mono BB.out.size)); clear BB; have BB := BBn; clear BBn
  clear hb
  go_wp2_with fail
  (with_reducible refine (HN _).mono ?_)
  clear HN
  rintro e w3 ⟨A0, ka0, R0, ra0, S0, sa0, rfl, ha, hs0, hs1, hb, _⟩
  have BBn := Lib.hid (BB.out.trans (hb.mono BB.out.size)); clear BB; have BB := BBn; clear BBn
  clear hb
  have HA := Lib.hid ha
  have HS0 := Lib.hid hs0
  have HS1 := Lib.hid hs1
  clear ha hs0 hs1
  go_wp2_with fail
  (with_reducible refine (C1 A0 ka0 R0 ra0 S0 sa0 _ (Tab.later HTab BB.out) HA HS0 HS1).mono ?_)
  clear C1 HA HS0 HS1
  rintro e w4 ⟨A1, ka1, R1, ra1, S1, sa1, rfl, ha, hs0, hs1, hb, _⟩
  go_upto_region 5 with fail
  have hbx : Below w4.heap.size w4 ((w4.alloc (.cells #[.int .i64 1, .int .i64 1, .slice A1 n ka1, .int .u64 0, .slice R1 1 ra1, .slice S1 1 sa1] 33)).alloc (.cells #[.int .i64 0, .bool false, .int .i64 0, .int .u64 1, .slice none 0 0] 38)) := below_pair _ _ _
  have HWD : Hid (WdFrom (fun b => b ≠ w4.heap.size) (fun _ => False) ((w4.alloc (.cells #[.int .i64 1, .int .i64 1, .slice A1 n ka1, .int .u64 0, .slice R1 1 ra1, .slice S1 1 sa1] 33)).alloc (.cells #[.int .i64 0, .bool false, .int .i64 0, .int .u64 1, .slice none 0 0] 38)) w4.heap.size 1 1 n 0 1 (twG f k 0) (twL f k 0) (zerosS 1)) := Lib.hid ⟨A1, ka1, R1, ra1, S1, sa1, WdAt.made (t := 1) (c := 1) (k := ka1) (r := 0) (ra := ra1) (sa := sa1) w4 (.cells #[.int .i64 0, .bool false, .int .i64 0, .int .u64 1, .slice none 0 0] 38) 33 ha hs0 hs1, ha.old.mono fun b hb => (by omega), (hs0.old.mono fun b hb => (by omega : b ≠ w4.heap.size)).later hs0 hbx, (hs1.old.mono fun b hb => (by omega : b ≠ w4.heap.size)).later hs1 hbx, fun P h => h.elim⟩
  have hbn := hb.trans (hbx.mono hb.size)
  have HG0 : Hid (w.heap.size ≤ w4.heap.size) := Lib.hid (Nat.le_trans BB.out.size hb.size)
  generalize (w4.alloc (.cells #[.int .i64 1, .int .i64 1, .slice A1 n ka1, .int .u64 0, .slice R1 1 ra1, .slice S1 1 sa1] 33)).alloc (.cells #[.int .i64 0, .bool false, .int .i64 0, .int .u64 1, .slice none 0 0] 38) = x1 at hbx hbn HWD ⊢
  generalize w4.heap.size = b0 at HWD HG0 ⊢
  have BBn := Lib.hid (BB.out.trans (hbn.mono BB.out.size)); clear BB; have BB := BBn; clear BBn
  clear hbn ha hs0 hs1 hb hbx
  go_upto_region 11 with fail
  have hba : Below x1.heap.size x1 (x1.alloc (.cells #[.int .i64 2, .int .i64 1, .int .i64 2, .int .i64 1] 3)) := al_below _ _
  have HBV := Lib.hid (VarAt.made x1 #[.int .i64 2, .int .i64 1, .int .i64 2, .int .i64 1] 3)
  have HNE : Hid (¬ (b0 = x1.heap.size)) := Lib.hid (by have := HWD.out.lt; omega)
  generalize x1.alloc (.cells #[.int .i64 2, .int .i64 1, .int .i64 2, .int .i64 1] 3) = x2 at hba HBV ⊢
  have HWDn := Lib.hid (HWD.out.later hba); clear HWD; have HWD := HWDn; clear HWDn
  have BBn := Lib.hid (BB.out.trans (hba.mono BB.out.size)); clear BB; have BB := BBn; clear BBn
  clear hba
  generalize x1.heap.size = bb at HBV HNE ⊢
  go_wp2_with fail
  go_loopw [11] (fun v wr => ∃ i : Nat, i ≤ 4 ∧ v = .int .i64 (i : Int) ∧ WdFrom (fun b => b ≠ b0) (fun _ => False) wr b0 1 1 n 0 1 (twG f k i) (twL f k i) (zerosS 1) ∧ VarAt wr bb [.int .i64 2, .int .i64 1, .int .i64 2, .int .i64 1] ∧ Below w.heap.size w wr) (fun v _ => 4 - (intOf v).toNat)
  case atStart => exact ⟨0, by omega, rfl, HWD.out, HBV.out, BB.out⟩
  case round =>
    clear HWD HBV BB
    obtain ⟨i, hik, rfl, hwd, hbv, hbl⟩ := hrel
    have HWD := Lib.hid hwd
    have HBV := Lib.hid hbv
    have BB := Lib.hid hbl
    clear hwd hbv hbl
    by_cases hlt : i < 4
    case pos =>
      have d0 : decide ((i : Int) < 4) = true := by rw [decide_eq_true_iff]; omega
      have d0' : decide (i < 4) = true := by rw [decide_eq_true_iff]; omega
      have i0 : (0 : Int) ≤ (i : Int) := by omega
      have i1 : (i : Int) < 4 := by omega
      have rB : ∀ w', Below wr.heap.size wr w' → w'.cell? ⟨bb, i, none⟩ = some (.int .i64 (twB f i : Int)) := fun w' hb => (HBV.out.below hb).2.1 i _ (HBITS.out i hlt)
      by_cases h1 : 1 < i
      case pos =>
        have d1 : decide ((1 : Int) < (i : Int)) = true := by rw [decide_eq_true_iff]; omega
        have d1' : decide (1 < i) = true := by rw [decide_eq_true_iff]; omega
        have HAL := HHI i hlt h1
        clear h1
        obtain ⟨A1, ka1, R1, ra1, S1, sa1, hW, o0, o1, o2, _⟩ := HWD.out
        have W1 := Lib.hid hW
        have O1 := Lib.hid (And.intro o0 (And.intro o1 o2))
        have HGlt := Lib.hid hW.1.1
        have HTw := Tab.later HTab BB.out
        clear hW o0 o1 o2
        go_upto_region 17 with fail
        have rC0 := fun w' (hb : Below wr.heap.size wr w') => (W1.out.later hb).cells.1
        have rC1 := fun w' (hb : Below wr.heap.size wr w') => (W1.out.later hb).cells.2.1
        have rC2 := fun w' (hb : Below wr.heap.size wr w') => (W1.out.later hb).cells.2.2.1
        have rC3 := fun w' (hb : Below wr.heap.size wr w') => (W1.out.later hb).cells.2.2.2.1
        have rC4 := fun w' (hb : Below wr.heap.size wr w') => (W1.out.later hb).cells.2.2.2.2.1
        have rC5 := fun w' (hb : Below wr.heap.size wr w') => (W1.out.later hb).cells.2.2.2.2.2
        have HB0 : Below wr.heap.size wr wr := Below.refl _ _
        have HQN : Hid (∀ b, wr.heap.size ≤ b → (fun b => b ≠ b0) b) := Lib.hid (fun b hb => by have := HGlt.out; simp only []; omega)
        go_cut [13, 14, 15] from 52 to 64 (fun s13 s14 s15 wx => AlS (fun b => b ≠ b0) 1 1 n 1 (twG f k (i + 1)) (twL f k (i + 1)) (zerosS 1) 0 true 0 wr b0 [.int .i64 1, .int .i64 1, .slice A1 n ka1, .int .u64 0, .slice R1 1 ra1, .slice S1 1 sa1] s13 s14 s15 wx)
        case first =>
          go_region_held3 (fun w' => Below wr.heap.size wr w') (repeat (first | with_reducible assumption | with_reducible refine Below.drew ?_ | with_reducible refine below_al ?_ | (with_reducible refine below_set1 (by omega) _ ?_)))
            (first | (go_at_call 9; (with_reducible refine (HAL A1 ka1 R1 ra1 S1 sa1 _ (Tab.later HTw (by repeat (first | with_reducible assumption | with_reducible refine Below.drew ?_ | with_reducible refine below_al ?_))) (W1.out.later (by repeat (first | with_reducible assumption | with_reducible refine Below.drew ?_ | with_reducible refine below_al ?_))).gA (W1.out.later (by repeat (first | with_reducible assumption | with_reducible refine Below.drew ?_ | with_reducible refine below_al ?_))).g0 (W1.out.later (by repeat (first | with_reducible assumption | with_reducible refine Below.drew ?_ | with_reducible refine below_al ?_))).g1).mono ?_); rintro e w4 ⟨A4, ka4, R4, ra4, S4, sa4, rfl, ha, hs0, hs1, hb, hP⟩; have hBw4 : Below wr.heap.size wr w4 := below_step hb (by repeat (first | with_reducible assumption | with_reducible refine Below.drew ?_ | with_reducible refine below_al ?_)); have hz4 := hBw4.size; have HA4 := Lib.hid ha; have HS4 := Lib.hid hs0; have HT4 := Lib.hid hs1; have HQ := Lib.hid (alone_arm (Q := (fun b => b ≠ b0)) (by repeat (first | with_reducible assumption | with_reducible refine Below.drew ?_ | with_reducible refine below_al ?_)) hb hP W1.out.2.1 W1.out.2.2.1 W1.out.2.2.2 O1.out.1 O1.out.2.1 O1.out.2.2 HQN.out); (try (have VBa : VarAt w4 wr.heap.size [.int .i64 0, .int .i64 0, .slice none 0 0, .int .u64 0, .slice none 0 0, .slice none 0 0] := VarAt.onto hb (VarAt.made wr #[.int .i64 0, .int .i64 0, .slice none 0 0, .int .u64 0, .slice none 0 0, .slice none 0 0] 33) rfl; obtain ⟨_, ⟨va0, va1, va2, va3, va4, va5⟩, wa0, wa1, wa2, wa3, wa4, wa5⟩ := VBa.six)); (try (have VBb : VarAt w4 wr.heap.size [.int .i64 0, .bool false, .int .i64 0, .int .u64 0, .slice none 0 0] := VarAt.onto hb (VarAt.made wr #[.int .i64 0, .bool false, .int .i64 0, .int .u64 0, .slice none 0 0] 38) rfl; obtain ⟨_, ⟨vb0, vb1, vb2, vb3, vb4⟩, wb0, wb1, wb2, wb3, wb4⟩ := VBb.five)); (try (have VBc : VarAt w4 (wr.heap.size + 1) [.int .i64 0, .bool false, .int .i64 0, .int .u64 0, .slice none 0 0] := VarAt.onto hb (VarAt.made1 wr (.cells #[.int .i64 0, .int .i64 0, .slice none 0 0, .int .u64 0, .slice none 0 0, .slice none 0 0] 33) #[.int .i64 0, .bool false, .int .i64 0, .int .u64 0, .slice none 0 0] 38) rfl; obtain ⟨_, ⟨vc0, vc1, vc2, vc3, vc4⟩, wc0, wc1, wc2, wc3, wc4⟩ := VBc.five)); (try (have VBd : VarAt w4 (wr.heap.size + 1) [.int .i64 0, .int .i64 0, .slice none 0 0, .int .u64 0, .slice none 0 0, .slice none 0 0] := VarAt.onto hb (VarAt.made1 wr (.cells #[.int .i64 0, .bool false, .int .i64 0, .int .u64 0, .slice none 0 0] 38) #[.int .i64 0, .int .i64 0, .slice none 0 0, .int .u64 0, .slice none 0 0, .slice none 0 0] 33) rfl; obtain ⟨_, ⟨vd0, vd1, vd2, vd3, vd4, vd5⟩, wd0, wd1, wd2, wd3, wd4, wd5⟩ := VBd.six)); (try (have VBe : VarAt w4 wr.heap.size [.int .i64 0, .int .i64 0, .slice none 0 0, .int .u64 0, .slice none 0 0, .slice none 0 0] := VarAt.onto hb ((VarAt.made wr #[.int .i64 0, .int .i64 0, .slice none 0 0, .int .u64 0, .slice none 0 0, .slice none 0 0] 33).below (al_below _ (.cells #[.int .i64 0, .bool false, .int .i64 0, .int .u64 0, .slice none 0 0] 38))) rfl; obtain ⟨_, ⟨ve0, ve1, ve2, ve3, ve4, ve5⟩, we0, we1, we2, we3, we4, we5⟩ := VBe.six)); (try (have VBf : VarAt w4 wr.heap.size [.int .i64 0, .bool false, .int .i64 0, .int .u64 0, .slice none 0 0] := VarAt.onto hb ((VarAt.made wr #[.int .i64 0, .bool false, .int .i64 0, .int .u64 0, .slice none 0 0] 38).below (al_below _ (.cells #[.int .i64 0, .int .i64 0, .slice none 0 0, .int .u64 0, .slice none 0 0, .slice none 0 0] 33))) rfl; obtain ⟨_, ⟨vf0, vf1, vf2, vf3, vf4⟩, wf0, wf1, wf2, wf3, wf4⟩ := VBf.five)); clear ha hs0 hs1 hb hP))
          all_goals
            go_wp2_with fail
            go_meet
            obtain ⟨N2, hN2, hN3, hN4, o0, o1, o2⟩ := HQ.out
            have hgz := HGlt.out
            simp at hN2
            obtain ⟨_, ⟨c0, c1, c2, c3, c4, c5⟩, q0, q1, q2, q3, q4, q5⟩ := (W1.out.later hBw4).1.six
            exact AlS.of (N2 := N2) (w4 := w4) (ka := ka4) (ra := ra4) (sa := sa4) (by repeat (first | with_reducible exact Keep.refl _ _ | with_reducible refine Keep.drew ?_ | with_reducible refine Keep.alloc ?_ _ | (with_reducible refine Keep.set ?_ _ _ _ (by unfold Qc; omega)))) (by omega) (by omega) (VarAt.of6 (by first | (simp; done) | (simp; omega) | omega) (by go_simp) (by go_simp) (by go_simp) (by go_simp) (by go_simp) (by go_simp) (by go_simp) (by go_simp) (by go_simp) (by go_simp) (by go_simp) (by go_simp)) (VarAt.mk5 (by first | (simp; done) | (simp; omega) | omega) (by go_simp) (by go_simp) (by go_simp) (by go_simp) (by go_simp) (by go_simp) (by go_simp) (by go_simp) (by go_simp) (by go_simp)) (VarAt.of6 (by first | (simp; done) | (simp; omega) | omega) (by go_simp) (by go_simp) (by go_simp) (by go_simp) (by go_simp) (by go_simp) (by go_simp) (by go_simp) (by go_simp) (by go_simp) (by go_simp) (by go_simp)) HA4.out HS4.out HT4.out o0 o1 o2 (by repeat (first | with_reducible assumption | with_reducible refine Below.drew ?_ | with_reducible refine below_al ?_ | (with_reducible refine below_set1 (by omega) _ ?_)))
        case rest =>
          obtain ⟨b1, b2, rfl, rfl, rfl, n1, n2, ⟨A3, ka3, R3, ra3, S3, sa3, hw3, o0, o1, o2⟩, hv2, hvg, hby⟩ := hcut
          clear HAL rC0 rC1 rC2 rC3 rC4 rC5 HB0 HQN rB
          have hlt0 := HGlt.out
          have hne := HNE.out
          have m1 : ¬ (b1 = b0) := by omega
          have m2 : ¬ (b0 = b1) := by omega
          have m3 : ¬ (b2 = b0) := by omega
          have m4 : ¬ (b0 = b2) := by omega
          have W3 := Lib.hid hw3
          have OF3 := Lib.hid (And.intro o0 (And.intro o1 o2))
          have HV2 := Lib.hid hv2
          have HVG := Lib.hid hvg
          have BBn := Lib.hid (BB.out.trans (hby.mono BB.out.size)); clear BB; have BB := BBn; clear BBn
          have HBVn := Lib.hid (HBV.out.below hby); clear HBV; have HBV := HBVn; clear HBVn
          obtain ⟨_, ⟨e0, e1, e2, e3, e4, e5⟩, _⟩ := hw3.1.six
          obtain ⟨zx, ⟨y0, y1, y2, y3, y4, y5⟩, f0, f1, f2, f3, f4, f5⟩ := hvg.six
          obtain ⟨_, ⟨p1, p2, p3, p4, p5⟩, _⟩ := hv2.five
          have hg0 := HG0.out
          clear hw3 hv2 hvg hby n1 n2 o0 o1 o2 W1 O1 HGlt HWD
          go_upto_region 13 with fail
          have hbb := BB.out
          refine gen_at (P := fun W => Code.wp _ _ _ _ W) (fun z => WdFrom (fun b => b ≠ b0) (fun _ => False) z b0 1 1 n 0 1 (twG f k (i + 1)) (twL f k (i + 1)) (zerosS 1) ∧ VarAt z bb [.int .i64 2, .int .i64 1, .int .i64 2, .int .i64 1] ∧ Below w.heap.size w z) ⟨⟨A3, ka3, R3, ra3, S3, sa3, ⟨VarAt.of6 (by simp; omega) (by go_simp) (by go_simp) (by go_simp) (by go_simp) (by go_simp) (by go_simp) (by go_simp) (by go_simp) (by go_simp) (by go_simp) (by go_simp) (by go_simp), W3.out.2.1.keep (Q := fun b => b ≠ b0) (by repeat (first | with_reducible exact Keep.refl _ _ | with_reducible refine Keep.drew ?_ | with_reducible refine Keep.alloc ?_ _ | (with_reducible refine Keep.set ?_ _ _ _ (by omega)))) OF3.out.1, W3.out.2.2.1.keep (Q := fun b => b ≠ b0) (by repeat (first | with_reducible exact Keep.refl _ _ | with_reducible refine Keep.drew ?_ | with_reducible refine Keep.alloc ?_ _ | (with_reducible refine Keep.set ?_ _ _ _ (by omega)))) OF3.out.2.1, W3.out.2.2.2.keep (Q := fun b => b ≠ b0) (by repeat (first | with_reducible exact Keep.refl _ _ | with_reducible refine Keep.drew ?_ | with_reducible refine Keep.alloc ?_ _ | (with_reducible refine Keep.set ?_ _ _ _ (by omega)))) OF3.out.2.2⟩, OF3.out.1, OF3.out.2.1.keep W3.out.2.2.1 (Q := fun b => b ≠ b0) (by repeat (first | with_reducible exact Keep.refl _ _ | with_reducible refine Keep.drew ?_ | with_reducible refine Keep.alloc ?_ _ | (with_reducible refine Keep.set ?_ _ _ _ (by omega)))) OF3.out.2.1, OF3.out.2.2.keep W3.out.2.2.2 (Q := fun b => b ≠ b0) (by repeat (first | with_reducible exact Keep.refl _ _ | with_reducible refine Keep.drew ?_ | with_reducible refine Keep.alloc ?_ _ | (with_reducible refine Keep.set ?_ _ _ _ (by omega)))) OF3.out.2.2, fun P h => h.elim⟩, (by repeat (first | with_reducible exact HBV.out | (with_reducible refine VarAt.apart ?_ _ _ (by omega)))), (by repeat (first | with_reducible assumption | with_reducible refine Below.drew ?_ | with_reducible refine below_al ?_ | (with_reducible refine below_set1 (by omega) _ ?_)))⟩ ?_
          rintro z ⟨hz, hz2, hbz⟩
          clear W3 OF3 HV2 HVG e0 e1 e2 e3 e4 e5 y0 y1 y2 y3 y4 y5 f0 f1 f2 f3 f4 f5 zx p1 p2 p3 p4 p5 hbb hg0 BB HBV
          go_wp2_with fail
          go_roundw
          case rel => exact ⟨i + 1, by omega, by go_num, hz, hz2, hbz⟩
          case measure => simp [intOf]; omega
      case neg =>
        have d1 : decide ((1 : Int) < (i : Int)) = false := by rw [decide_eq_false_iff_not]; omega
        have d1' : decide (1 < i) = false := by rw [decide_eq_false_iff_not]; omega
        have HAL := HLO i hlt h1
        clear h1
        obtain ⟨A1, ka1, R1, ra1, S1, sa1, hW, o0, o1, o2, _⟩ := HWD.out
        have W1 := Lib.hid hW
        have O1 := Lib.hid (And.intro o0 (And.intro o1 o2))
        have HGlt := Lib.hid hW.1.1
        have HTw := Tab.later HTab BB.out
        clear hW o0 o1 o2
        go_upto_region 17 with fail
        have rC0 := fun w' (hb : Below wr.heap.size wr w') => (W1.out.later hb).cells.1
        have rC1 := fun w' (hb : Below wr.heap.size wr w') => (W1.out.later hb).cells.2.1
        have rC2 := fun w' (hb : Below wr.heap.size wr w') => (W1.out.later hb).cells.2.2.1
        have rC3 := fun w' (hb : Below wr.heap.size wr w') => (W1.out.later hb).cells.2.2.2.1
        have rC4 := fun w' (hb : Below wr.heap.size wr w') => (W1.out.later hb).cells.2.2.2.2.1
        have rC5 := fun w' (hb : Below wr.heap.size wr w') => (W1.out.later hb).cells.2.2.2.2.2
        have HB0 : Below wr.heap.size wr wr := Below.refl _ _
        have HQN : Hid (∀ b, wr.heap.size ≤ b → (fun b => b ≠ b0) b) := Lib.hid (fun b hb => by have := HGlt.out; simp only []; omega)
        go_cut [13, 14, 15] from 52 to 64 (fun s13 s14 s15 wx => AlS (fun b => b ≠ b0) 1 1 n 1 (twG f k (i + 1)) (twL f k (i + 1)) (zerosS 1) 0 true 0 wr b0 [.int .i64 1, .int .i64 1, .slice A1 n ka1, .int .u64 0, .slice R1 1 ra1, .slice S1 1 sa1] s13 s14 s15 wx)
        case first =>
          go_region_held3 (fun w' => Below wr.heap.size wr w') (repeat (first | with_reducible assumption | with_reducible refine Below.drew ?_ | with_reducible refine below_al ?_ | (with_reducible refine below_set1 (by omega) _ ?_)))
            (first | (go_at_call 9; (with_reducible refine (HAL A1 ka1 R1 ra1 S1 sa1 _ (Tab.later HTw (by repeat (first | with_reducible assumption | with_reducible refine Below.drew ?_ | with_reducible refine below_al ?_))) (W1.out.later (by repeat (first | with_reducible assumption | with_reducible refine Below.drew ?_ | with_reducible refine below_al ?_))).gA (W1.out.later (by repeat (first | with_reducible assumption | with_reducible refine Below.drew ?_ | with_reducible refine below_al ?_))).g0 (W1.out.later (by repeat (first | with_reducible assumption | with_reducible refine Below.drew ?_ | with_reducible refine below_al ?_))).g1).mono ?_); rintro e w4 ⟨A4, ka4, R4, ra4, S4, sa4, rfl, ha, hs0, hs1, hb, hP⟩; have hBw4 : Below wr.heap.size wr w4 := below_step hb (by repeat (first | with_reducible assumption | with_reducible refine Below.drew ?_ | with_reducible refine below_al ?_)); have hz4 := hBw4.size; have HA4 := Lib.hid ha; have HS4 := Lib.hid hs0; have HT4 := Lib.hid hs1; have HQ := Lib.hid (alone_arm (Q := (fun b => b ≠ b0)) (by repeat (first | with_reducible assumption | with_reducible refine Below.drew ?_ | with_reducible refine below_al ?_)) hb hP W1.out.2.1 W1.out.2.2.1 W1.out.2.2.2 O1.out.1 O1.out.2.1 O1.out.2.2 HQN.out); (try (have VBa : VarAt w4 wr.heap.size [.int .i64 0, .int .i64 0, .slice none 0 0, .int .u64 0, .slice none 0 0, .slice none 0 0] := VarAt.onto hb (VarAt.made wr #[.int .i64 0, .int .i64 0, .slice none 0 0, .int .u64 0, .slice none 0 0, .slice none 0 0] 33) rfl; obtain ⟨_, ⟨va0, va1, va2, va3, va4, va5⟩, wa0, wa1, wa2, wa3, wa4, wa5⟩ := VBa.six)); (try (have VBb : VarAt w4 wr.heap.size [.int .i64 0, .bool false, .int .i64 0, .int .u64 0, .slice none 0 0] := VarAt.onto hb (VarAt.made wr #[.int .i64 0, .bool false, .int .i64 0, .int .u64 0, .slice none 0 0] 38) rfl; obtain ⟨_, ⟨vb0, vb1, vb2, vb3, vb4⟩, wb0, wb1, wb2, wb3, wb4⟩ := VBb.five)); (try (have VBc : VarAt w4 (wr.heap.size + 1) [.int .i64 0, .bool false, .int .i64 0, .int .u64 0, .slice none 0 0] := VarAt.onto hb (VarAt.made1 wr (.cells #[.int .i64 0, .int .i64 0, .slice none 0 0, .int .u64 0, .slice none 0 0, .slice none 0 0] 33) #[.int .i64 0, .bool false, .int .i64 0, .int .u64 0, .slice none 0 0] 38) rfl; obtain ⟨_, ⟨vc0, vc1, vc2, vc3, vc4⟩, wc0, wc1, wc2, wc3, wc4⟩ := VBc.five)); (try (have VBd : VarAt w4 (wr.heap.size + 1) [.int .i64 0, .int .i64 0, .slice none 0 0, .int .u64 0, .slice none 0 0, .slice none 0 0] := VarAt.onto hb (VarAt.made1 wr (.cells #[.int .i64 0, .bool false, .int .i64 0, .int .u64 0, .slice none 0 0] 38) #[.int .i64 0, .int .i64 0, .slice none 0 0, .int .u64 0, .slice none 0 0, .slice none 0 0] 33) rfl; obtain ⟨_, ⟨vd0, vd1, vd2, vd3, vd4, vd5⟩, wd0, wd1, wd2, wd3, wd4, wd5⟩ := VBd.six)); (try (have VBe : VarAt w4 wr.heap.size [.int .i64 0, .int .i64 0, .slice none 0 0, .int .u64 0, .slice none 0 0, .slice none 0 0] := VarAt.onto hb ((VarAt.made wr #[.int .i64 0, .int .i64 0, .slice none 0 0, .int .u64 0, .slice none 0 0, .slice none 0 0] 33).below (al_below _ (.cells #[.int .i64 0, .bool false, .int .i64 0, .int .u64 0, .slice none 0 0] 38))) rfl; obtain ⟨_, ⟨ve0, ve1, ve2, ve3, ve4, ve5⟩, we0, we1, we2, we3, we4, we5⟩ := VBe.six)); (try (have VBf : VarAt w4 wr.heap.size [.int .i64 0, .bool false, .int .i64 0, .int .u64 0, .slice none 0 0] := VarAt.onto hb ((VarAt.made wr #[.int .i64 0, .bool false, .int .i64 0, .int .u64 0, .slice none 0 0] 38).below (al_below _ (.cells #[.int .i64 0, .int .i64 0, .slice none 0 0, .int .u64 0, .slice none 0 0, .slice none 0 0] 33))) rfl; obtain ⟨_, ⟨vf0, vf1, vf2, vf3, vf4⟩, wf0, wf1, wf2, wf3, wf4⟩ := VBf.five)); clear ha hs0 hs1 hb hP))
          all_goals
            go_wp2_with fail
            go_meet
            obtain ⟨N2, hN2, hN3, hN4, o0, o1, o2⟩ := HQ.out
            have hgz := HGlt.out
            simp at hN2
            obtain ⟨_, ⟨c0, c1, c2, c3, c4, c5⟩, q0, q1, q2, q3, q4, q5⟩ := (W1.out.later hBw4).1.six
            exact AlS.of (N2 := N2) (w4 := w4) (ka := ka4) (ra := ra4) (sa := sa4) (by repeat (first | with_reducible exact Keep.refl _ _ | with_reducible refine Keep.drew ?_ | with_reducible refine Keep.alloc ?_ _ | (with_reducible refine Keep.set ?_ _ _ _ (by unfold Qc; omega)))) (by omega) (by omega) (VarAt.of6 (by first | (simp; done) | (simp; omega) | omega) (by go_simp) (by go_simp) (by go_simp) (by go_simp) (by go_simp) (by go_simp) (by go_simp) (by go_simp) (by go_simp) (by go_simp) (by go_simp) (by go_simp)) (VarAt.mk5 (by first | (simp; done) | (simp; omega) | omega) (by go_simp) (by go_simp) (by go_simp) (by go_simp) (by go_simp) (by go_simp) (by go_simp) (by go_simp) (by go_simp) (by go_simp)) (VarAt.of6 (by first | (simp; done) | (simp; omega) | omega) (by go_simp) (by go_simp) (by go_simp) (by go_simp) (by go_simp) (by go_simp) (by go_simp) (by go_simp) (by go_simp) (by go_simp) (by go_simp) (by go_simp)) HA4.out HS4.out HT4.out o0 o1 o2 (by repeat (first | with_reducible assumption | with_reducible refine Below.drew ?_ | with_reducible refine below_al ?_ | (with_reducible refine below_set1 (by omega) _ ?_)))
        case rest =>
          obtain ⟨b1, b2, rfl, rfl, rfl, n1, n2, ⟨A3, ka3, R3, ra3, S3, sa3, hw3, o0, o1, o2⟩, hv2, hvg, hby⟩ := hcut
          clear HAL rC0 rC1 rC2 rC3 rC4 rC5 HB0 HQN rB
          have hlt0 := HGlt.out
          have hne := HNE.out
          have m1 : ¬ (b1 = b0) := by omega
          have m2 : ¬ (b0 = b1) := by omega
          have m3 : ¬ (b2 = b0) := by omega
          have m4 : ¬ (b0 = b2) := by omega
          have W3 := Lib.hid hw3
          have OF3 := Lib.hid (And.intro o0 (And.intro o1 o2))
          have HV2 := Lib.hid hv2
          have HVG := Lib.hid hvg
          have BBn := Lib.hid (BB.out.trans (hby.mono BB.out.size)); clear BB; have BB := BBn; clear BBn
          have HBVn := Lib.hid (HBV.out.below hby); clear HBV; have HBV := HBVn; clear HBVn
          obtain ⟨_, ⟨e0, e1, e2, e3, e4, e5⟩, _⟩ := hw3.1.six
          obtain ⟨zx, ⟨y0, y1, y2, y3, y4, y5⟩, f0, f1, f2, f3, f4, f5⟩ := hvg.six
          obtain ⟨_, ⟨p1, p2, p3, p4, p5⟩, _⟩ := hv2.five
          have hg0 := HG0.out
          clear hw3 hv2 hvg hby n1 n2 o0 o1 o2 W1 O1 HGlt HWD
          go_upto_region 13 with fail
          have hbb := BB.out
          refine gen_at (P := fun W => Code.wp _ _ _ _ W) (fun z => WdFrom (fun b => b ≠ b0) (fun _ => False) z b0 1 1 n 0 1 (twG f k (i + 1)) (twL f k (i + 1)) (zerosS 1) ∧ VarAt z bb [.int .i64 2, .int .i64 1, .int .i64 2, .int .i64 1] ∧ Below w.heap.size w z) ⟨⟨A3, ka3, R3, ra3, S3, sa3, ⟨VarAt.of6 (by simp; omega) (by go_simp) (by go_simp) (by go_simp) (by go_simp) (by go_simp) (by go_simp) (by go_simp) (by go_simp) (by go_simp) (by go_simp) (by go_simp) (by go_simp), W3.out.2.1.keep (Q := fun b => b ≠ b0) (by repeat (first | with_reducible exact Keep.refl _ _ | with_reducible refine Keep.drew ?_ | with_reducible refine Keep.alloc ?_ _ | (with_reducible refine Keep.set ?_ _ _ _ (by omega)))) OF3.out.1, W3.out.2.2.1.keep (Q := fun b => b ≠ b0) (by repeat (first | with_reducible exact Keep.refl _ _ | with_reducible refine Keep.drew ?_ | with_reducible refine Keep.alloc ?_ _ | (with_reducible refine Keep.set ?_ _ _ _ (by omega)))) OF3.out.2.1, W3.out.2.2.2.keep (Q := fun b => b ≠ b0) (by repeat (first | with_reducible exact Keep.refl _ _ | with_reducible refine Keep.drew ?_ | with_reducible refine Keep.alloc ?_ _ | (with_reducible refine Keep.set ?_ _ _ _ (by omega)))) OF3.out.2.2⟩, OF3.out.1, OF3.out.2.1.keep W3.out.2.2.1 (Q := fun b => b ≠ b0) (by repeat (first | with_reducible exact Keep.refl _ _ | with_reducible refine Keep.drew ?_ | with_reducible refine Keep.alloc ?_ _ | (with_reducible refine Keep.set ?_ _ _ _ (by omega)))) OF3.out.2.1, OF3.out.2.2.keep W3.out.2.2.2 (Q := fun b => b ≠ b0) (by repeat (first | with_reducible exact Keep.refl _ _ | with_reducible refine Keep.drew ?_ | with_reducible refine Keep.alloc ?_ _ | (with_reducible refine Keep.set ?_ _ _ _ (by omega)))) OF3.out.2.2, fun P h => h.elim⟩, (by repeat (first | with_reducible exact HBV.out | (with_reducible refine VarAt.apart ?_ _ _ (by omega)))), (by repeat (first | with_reducible assumption | with_reducible refine Below.drew ?_ | with_reducible refine below_al ?_ | (with_reducible refine below_set1 (by omega) _ ?_)))⟩ ?_
          rintro z ⟨hz, hz2, hbz⟩
          clear W3 OF3 HV2 HVG e0 e1 e2 e3 e4 e5 y0 y1 y2 y3 y4 y5 f0 f1 f2 f3 f4 f5 zx p1 p2 p3 p4 p5 hbb hg0 BB HBV
          go_wp2_with fail
          go_roundw
          case rel => exact ⟨i + 1, by omega, by go_num, hz, hz2, hbz⟩
          case measure => simp [intOf]; omega
    case neg =>
      obtain rfl : i = 4 := by omega
      clear HLO HHI HBV HNE HBITS
      obtain ⟨A1, ka1, R1, ra1, S1, sa1, hW, _, _, _, _⟩ := HWD.out
      obtain ⟨g2, f2, rfl, hg2, hc2⟩ := hW.2.2.1.2.2 (by decide)
      obtain ⟨_, _, _, _, c4, _⟩ := hW.cells
      obtain ⟨D2, q2, z20, z21, z22, z23, z24, z25⟩ := hc2 0 _ rfl
      dsimp only at z20 z21 z23
      rw [show f2 + 0 * 2 = f2 by omega] at z20
      have HAT := Lib.hid z23
      obtain ⟨nd, hnd⟩ : ∃ m, (twD f k 4).length = m := ⟨_, rfl⟩
      have htl := HTL.out
      rw [hnd] at z20 z21 HAT htl
      clear hc2 z22 z23 z24 z25 hW HWD hnd
      generalize twD f k 4 = dd at *
      go_wp2_with fail
      (with_reducible refine (refSplit_at D2 nd q2 dd z21 (by omega) _ HAT).mono ?_)
      rintro e w5 ⟨v5, rfl, hO5, hb5⟩
      rw [HSP.out] at hO5
      obtain ⟨A5, k5, rfl, hk5, hat5⟩ := hO5.atC
      have BBn := Lib.hid (BB.out.trans (hb5.mono BB.out.size)); clear BB; have BB := BBn; clear BBn
      obtain ⟨g5, f5, rfl, hg5, hc5⟩ := hat5.2 (by simp)
      obtain ⟨A6, n6, k6, u0, u1, u2⟩ := hc5 0 (by simp)
      obtain ⟨A7, n7, k7, t0, t1, t2⟩ := hc5 1 (by simp)
      have HA6 := Lib.hid u2
      have HA7 := Lib.hid t2
      rw [show f5 + 0 = f5 by omega] at u0
      clear hc5 hat5 hO5 u1 u2 t1 t2 c4 z20 z21 hg2 HAT hb5
      rw [HSP.out]
      go_wp2_with fail
      (with_reducible refine (HDD A6 n6 k6 _ HA6).mono ?_)
      rintro e w6 ⟨rfl, hb6⟩
      have t0' := (hb6.cell hg5).trans t0
      have BBn := Lib.hid (BB.out.trans (hb6.mono BB.out.size)); clear BB; have BB := BBn; clear BBn
      have HA7n := Lib.hid (HA7.out.below hb6 (Nat.le_refl _)); clear HA7; have HA7 := HA7n; clear HA7n
      have hlt6 : g5 < w6.heap.size := Nat.lt_of_lt_of_le hg5 hb6.size
      have HS6 : Hid (w.heap.size ≤ w6.heap.size) := Lib.hid BB.out.size
      clear u0 t0 hg5 hb6 HA6
      go_upto_region 27 with fail
      have hbx : Below w6.heap.size w6 (w6.alloc (.cells #[.int .i64 2, .int .u64 1, .int .u64 0, .int .u64 0, .int .u64 0, .int .u64 0] 44)) := al_below _ _
      have V6 := Lib.hid (VarAt.made w6 #[.int .i64 2, .int .u64 1, .int .u64 0, .int .u64 0, .int .u64 0, .int .u64 0] 44)
      generalize w6.alloc (.cells #[.int .i64 2, .int .u64 1, .int .u64 0, .int .u64 0, .int .u64 0, .int .u64 0] 44) = x6 at hbx V6 ⊢
      have t1 := (hbx.cell hlt6).trans t0'
      have BBn := Lib.hid (BB.out.trans (hbx.mono BB.out.size)); clear BB; have BB := BBn; clear BBn
      have HA7n := Lib.hid (HA7.out.below hbx (Nat.le_refl _)); clear HA7; have HA7 := HA7n; clear HA7n
      generalize w6.heap.size = e6 at V6 HS6 ⊢
      clear hbx t0' hlt6
      go_wp2_with fail
      (with_reducible refine (HDB A7 n7 k7 _ HA7).mono ?_)
      rintro e w8 ⟨rfl, hb8⟩
      have BBn := Lib.hid (BB.out.trans (hb8.mono BB.out.size)); clear BB; have BB := BBn; clear BBn
      obtain ⟨zc, ⟨c0, c1, c2, c3, c4, c5⟩, q0, q1, q2', q3, q4, q5⟩ := (V6.out.below hb8).six
      have hbb := BB.out
      have hs6 := HS6.out
      clear hb8 t1 HA7
      go_wp2_with fail
      go_ret
      exact ⟨rfl, (by repeat (first | with_reducible assumption | with_reducible refine Below.drew ?_ | with_reducible refine below_al ?_ | (with_reducible refine below_set1 (by omega) _ ?_)))⟩
section
set_option maxRecDepth 100000
set_option maxHeartbeats 2000000
variable {H : Type} {enc : TypeId × Value → H} {w : World}
theorem open_k {v : Value} {d : DataW H} {ps : List MemPlace} {base : Nat} (hval : Value.okWide Tryd.prog w .any base 22 v) (h : DataW.Trod enc Tryd.prog w 0 (fun _ => true) true 22 v d ps) (hs : Sized Tryd.prog 22 d) (hlt : ∀ z ∈ ps, z.block < w.heap.size) :
    ∃ (k : Nat), v = .int .u64 (k : Int) ∧ k < 18446744073709551616 := by
  obtain ⟨a0, rfl⟩ := okWide_int Tryd.underlying22 hval
  obtain ⟨fuel, hf0⟩ := h
  have hf : DataW.trod enc Tryd.prog w 0 (fun _ => true) true fuel 22 [.int .u64 a0] = some (d, ps) := hf0
  obtain ⟨k, e0, hk⟩ := leaf_u64 Tryd.underlying22 hf
  cases e0
  exact ⟨_, rfl, hk⟩
theorem open_b {v : Value} {d : DataW H} {ps : List MemPlace} {base : Nat} (hval : Value.okWide Tryd.prog w .any base 4 v) (h : DataW.Trod enc Tryd.prog w 0 (fun _ => true) true 4 v d ps) (hs : Sized Tryd.prog 4 d) (hlt : ∀ z ∈ ps, z.block < w.heap.size) :
    ∃ (b : Bool), v = .bool b := by
  obtain ⟨a0, rfl⟩ := okWide_bool Tryd.underlying4 hval
  obtain ⟨fuel, hf0⟩ := h
  have hf : DataW.trod enc Tryd.prog w 0 (fun _ => true) true fuel 4 [.bool a0] = some (d, ps) := hf0
  obtain ⟨b, e0⟩ := leaf_bool Tryd.underlying4 hf
  cases e0
  exact ⟨_, rfl⟩
end

set_option maxRecDepth 100000 in
set_option maxHeartbeats 8000000 in
theorem lifted (os : Os) (started : os.Started) (H : Type) (enc : TypeId × Value → H) :
    ReturnsInHanded {} Tryd.checked os 5 .any (fun w args => (Rows.saveTwiceSpec.pre enc Tryd.prog Tryd.f5 [] false w args ∧ laidMetH Tryd.prog laidHalf w) ∧ sizedMet enc Tryd.prog Tryd.f5 (OpenSpec.ofChange Rows.saveTwiceSpec) false w args)
      (Rows.saveTwiceSpec.post enc Tryd.prog Tryd.f5 false true false false) := by
  refine law_lifted_laid (C := Tryd.checked) (X := fun w _ => laidMetH Tryd.prog laidHalf w) (fun _ _ _ hh h => h.of_heap hh) own started (by kernel_rfl) Tryd.func5
    (ChangeSpec.witness_shaped (enc := enc) (C := Tryd.checked) (os := os) (X := fun w _ => laidMetH Tryd.prog laidHalf w) false (World.doorLaid Tryd.prog 400 os) #[.int .u64 0, .bool false] 8 rfl (World.shaped_of_RefB (by kernel_rfl) (by kernel_rfl)) (by kernel_rfl) (by kernel_rfl) (by kernel_rfl) (door_met os _))
    (by kernel_rfl) (by kernel_rfl) Tryd.underlying4 rfl (by kernel_rfl) ?_
  intro W base args ds before hval hA hwt hlt hL
  have hTab := Lib.hid (tab_of_laid hL)
  have hA' : DataW.TrodAll enc Tryd.prog W 0 (fun _ => true) true Tryd.f5.params.toList args.toList ds before := hA
  have hval' : ∀ (j : Nat) t v, Tryd.f5.params[j]? = some t → args[j]? = some v → Value.okWide Tryd.prog W .any base t v := hval
  have hwt' : (DataW.weightsEach Tryd.prog Tryd.f5.params.toList ds).all (· ≤ reachBytes) = true := hwt
  rw [Tryd.params5] at hA' hval' hwt'
  obtain ⟨v0, vs0, d0, ds0, p0, q0, hargs, rfl, rfl, k0, r0⟩ := trodAll_cons hA'
  obtain ⟨v1, vs1, d1, ds1, p1, q1, rfl, rfl, rfl, k1, r1⟩ := trodAll_cons r0
  obtain ⟨rfl, rfl, rfl⟩ := trodAll_nil r1
  obtain rfl : args = #[v0, v1] := by cases args; simp_all
  obtain ⟨k, rfl, hk⟩ := open_k (hval' 0 22 v0 rfl rfl) k0 (sized_of hwt' (j := 0) (t := 22) rfl rfl) (fun x hx => hlt x (by simp [hx]))
  obtain ⟨b, rfl⟩ := open_b (hval' 1 4 v1 rfl rfl) k1 (sized_of hwt' (j := 1) (t := 4) rfl rfl) (fun x hx => hlt x (by simp [hx]))
  refine ⟨rfl, ?_⟩
  by_cases hm : (Ent.mk 1 1 k 0 0 0).mayB = true
  case neg => exact walk_no k hk b (by simpa using hm) W hTab
  cases b with
  | true => exact walk_true k hk hm W hTab
  | false => exact walk_false k hk hm W hTab

theorem over : Rows.saveTwiceRow.holds Tryd.pinned (OpenSpec.ofChange Rows.saveTwiceSpec) :=
  OpenClaim.holds_of_wide 5 Tryd.f5 rfl rfl rfl rfl rfl rfl rfl ⟨rfl, rfl, rfl, rfl, rfl⟩ rfl rfl rfl rfl rfl (by kernel_rfl) Tryd.func5 (by kernel_rfl)
    (of_decide_eq_true (by kernel_rfl)) (by unfold Func.isWrapper; first | (rw [if_pos (by decide +kernel)]; kernel_rfl) | (rw [if_neg (by decide +kernel)]; exact ⟨rfl, rfl⟩))
    (fun os started H enc _ => lifted os started H enc)

/-- The statement: the card, tied to the program's text. -/
theorem proved : Rows.SaveTwiceCardSaid :=
  Claim7.holds_tied_plain_at .later [] [.data] true (true, "2fb43c0deadbe9af7de9fd3aaa444727e05a9c5e462189d7aaacd0a7516a4d36") true
    over (fun _ h => by cases h) (by kernel_rfl) (fun _ h => by cases h) saveTwice_row_tie rfl ⟨rfl, rfl⟩ (by kernel_rfl) rfl
    (fun f fn hf hfn => by
      obtain rfl : f = 5 := Option.some.inj ((show Tryd.prog.funcNamed "weald/wealdlaw14.SaveTwice" = some 5 by kernel_rfl).symm.trans hf) |>.symm
      obtain rfl : fn = Tryd.f5 := (Option.some.inj (Tryd.func5.symm.trans hfn)).symm
      exact ⟨by kernel_rfl, fun j t ht => by
        rw [Tryd.params5] at ht
        have hm : t ∈ [22, 4] := by simpa using Array.mem_of_getElem? ht
        have hall : ([22, 4].all fun u => !Tryd.prog.wantsStandIn u) = true := by kernel_rfl
        exact (show Tryd.prog.wantsStandIn t = false by simpa using List.all_eq_true.1 hall t hm)⟩)
    (by kernel_rfl)
#print axioms proved
end Go.Proofs.YtdbomlclkhkinaaDoor.saveTwice
