/-
  ListSeeks: alone, a seek from the beginning finds the first record whose key isn't below what is sought, marked or not; where none is marked, a search finds the same; for up to 10 records, every gaps, marks and keys. No condition beyond the statement's own.
-/
import Derived.Test.YtkfodhkeajmbhaaGreatDoorLstC
import Derived.Test.YtkfodhkeajmbhaaGreatDoorLstSeek
import Derived.Test.YtkfodhkeajmbhaaGreatDoorAccBls
import Derived.Test.YtkfodhkeajmbhaaGreatDoorAccB
import Derived.Test.YtkfodhkeajmbhaaGreatDoorSmal
import Derived.Test.YtkfodhkeajmbhaaGreatDoorCards
import Derived.Test.YtkfodhkeajmbhaaGreatDoorTie
import Derived.Test.YtkfodhkeajmbhaaGreatDoorLaw
import Derived.Test.YtkfodhkeajmbhaaGreatDoorFields
import Derived.Deep.Cut
import Derived.Deep.CutRange
namespace Go.Proofs.YtkfodhkeajmbhaaGreatDoor.listSeeks
open Go.ChangeShapes Go.WideShapes Go.ChangeAt Go.RowKit Go.Deep Go.BigFrame
set_option linter.unusedVariables false
theorem own : ownKnob Tryz.prog.godebug = none := by kernel_rfl
abbrev laidHalf : List (String × DataW Unit) := [("weald/crc.half", Rows.laid_weald_crc_half)]
theorem door_met (os : Os) (args : Array Value) : laidMetH Tryz.prog laidHalf ((World.doorLaid Tryz.prog 400 os).forCall (fun _ _ => 0) ⟨#[], args, []⟩).memory :=
  laidMetH_of_parts3 (fuel := 8) (laidMet_of_run' 8 (by kernel_rfl) (by kernel_rfl)) (by kernel_rfl) (by kernel_rfl)

set_option maxRecDepth 100000 in
set_option maxHeartbeats 16000000 in
theorem walkLong (A : Option Addr) (n ac : Nat) (xs : List Nat) (M : Option Addr) (mn mc : Nat) (mf : Nat → Bool) (k : Nat) (hn : 10 < n) (w : World) (HTab : Hid (Tab w)) (HX : Hid (AtB w A n xs)) (HM : Hid (BlsAt w M mn mf)) :
    Calls Tryz.prog 6 #[.slice A n ac, .slice M mn mc, .int .u16 (k : Int)] w fun e w' => e = .returned (.bool true) ∧ Below w.heap.size w w' := by
  have d1 : decide ((10 : Int) < (n : Int)) = true := by rw [decide_eq_true_iff]; omega
  have d1n : decide (10 < n) = true := by rw [decide_eq_true_iff]; omega
  go_enter Tryz.func6, Tryz.ntmps6
  go_wp2_with fail
  (with_reducible refine (lstShown _ HTab).mono ?_)
  rintro e w1 ⟨rfl, hb⟩
  have BB := Lib.hid hb
  go_wp2_with fail
  go_ret
  exact ⟨rfl, BB.out⟩

set_option maxRecDepth 100000 in
set_option maxHeartbeats 16000000 in
theorem walkFew (A : Option Addr) (n ac : Nat) (xs : List Nat) (M : Option Addr) (mn mc : Nat) (mf : Nat → Bool) (k : Nat) (hn : n ≤ 10) (hm : mn < n) (w : World) (HTab : Hid (Tab w)) (HX : Hid (AtB w A n xs)) (HM : Hid (BlsAt w M mn mf)) :
    Calls Tryz.prog 6 #[.slice A n ac, .slice M mn mc, .int .u16 (k : Int)] w fun e w' => e = .returned (.bool true) ∧ Below w.heap.size w w' := by
  have d1 : decide ((10 : Int) < (n : Int)) = false := by rw [decide_eq_false_iff_not]; omega
  have d1n : decide (10 < n) = false := by rw [decide_eq_false_iff_not]; omega
  have d2 : decide ((mn : Int) < (n : Int)) = true := by rw [decide_eq_true_iff]; omega
  have d2n : decide (mn < n) = true := by rw [decide_eq_true_iff]; omega
  go_enter Tryz.func6, Tryz.ntmps6
  go_wp2_with fail
  (with_reducible refine (lstShown _ HTab).mono ?_)
  rintro e w1 ⟨rfl, hb⟩
  have BB := Lib.hid hb
  go_wp2_with fail
  go_ret
  exact ⟨rfl, BB.out⟩

set_option maxRecDepth 100000 in
set_option maxHeartbeats 16000000 in
theorem walkMain (A : Option Addr) (n ac : Nat) (xs : List Nat) (M : Option Addr) (mn mc : Nat) (mf : Nat → Bool) (k : Nat) (hn : n ≤ 10) (hm : n ≤ mn) (hk : k < 65536) (w : World) (HTab : Hid (Tab w)) (HX : Hid (AtB w A n xs)) (HM : Hid (BlsAt w M mn mf)) :
    Calls Tryz.prog 6 #[.slice A n ac, .slice M mn mc, .int .u16 (k : Int)] w fun e w' => e = .returned (.bool true) ∧ Below w.heap.size w w' := by
  have d1 : decide ((10 : Int) < (n : Int)) = false := by rw [decide_eq_false_iff_not]; omega
  have d1n : decide (10 < n) = false := by rw [decide_eq_false_iff_not]; omega
  have d2 : decide ((mn : Int) < (n : Int)) = false := by rw [decide_eq_false_iff_not]; omega
  have d2n : decide (mn < n) = false := by rw [decide_eq_false_iff_not]; omega
  have HN : ∀ w, Calls Tryz.prog 15 #[.int .i64 1, .int .i64 10] w (NewWdO w 1 10 (sizeN 1 10) (newF 1 10)) := fun w => newWdO_at 1 10 (by decide) (by decide) (by decide) w
  obtain ⟨gs, hgs⟩ : ∃ gs : Nat → Nat, gs = fun i => xs.getD i 0 := ⟨_, rfl⟩
  have hg : ∀ i, gs i < 256 := fun i => by
    rw [hgs]
    by_cases h : i < xs.length
    · exact HX.out.2.1 _ (by simp only [List.getD_eq_getElem?_getD, List.getElem?_eq_getElem h]; exact List.getElem_mem h)
    · simp [List.getD_eq_getElem?_getD, List.getElem?_eq_none (Nat.le_of_not_lt h)]
  have LA := Lib.hid (fun i (hi : i ≤ 10) => laid_all hg mf i hi)
  have HGG := Lib.hid (And.intro hg hgs)
  have hszN : sizeN 1 10 = 89 := rfl
  have KB := Lib.hid (And.intro hn (And.intro hm hk))
  have HCON := Lib.hid (And.intro (seek_laid (laid_all hg mf n hn) hn k) (And.intro (search_laid (laid_all hg mf n hn) hn k) (search_laid_ends (laid_all hg mf n hn) hn k)))
  clear hg hgs hn hm hk
  have hz0 : layG gs mf 0 = newF 1 10 := rfl
  generalize newF 1 10 = G0 at *
  generalize hNN : sizeN 1 10 = N at *
  have HNN := Lib.hid hszN
  clear hNN hszN
  go_enter Tryz.func6, Tryz.ntmps6
  go_wp2_with fail
  (with_reducible refine (lstShown _ HTab).mono ?_)
  rintro e w1 ⟨rfl, hb⟩
  have BB := Lib.hid hb
  clear hb
  go_wp2_with fail
  (with_reducible refine (HN _).mono ?_)
  clear HN
  rintro e w0 ⟨g0, R0, ra0, S0, sa0, rfl, hrow, hs0, hs1, ho0, ho1, hb, hg0⟩
  go_upto_region 6 with fail
  have hbx := al_below w0 (.cells #[.int .i64 1, .int .i64 10, .slice (some ⟨g0, 0, none⟩) N N, .int .u64 0, .slice R0 1 ra0, .slice S0 1 sa0] 52)
  have W0 : WdO (w0.alloc (.cells #[.int .i64 1, .int .i64 10, .slice (some ⟨g0, 0, none⟩) N N, .int .u64 0, .slice R0 1 ra0, .slice S0 1 sa0] 52)) w0.heap.size 1 10 g0 N R0 1 ra0 S0 sa0 G0 (zerosS 1) (zerosS 1) :=
    ⟨VarAt.made w0 _ _, hrow.later hbx, hs0.later hbx, hs1.later hbx, (ho0.mono fun b hb => hb.1).later hs0 hbx, (ho1.mono fun b hb => hb.1).later hs1 hbx, by have := hrow.1; omega⟩
  have HG0 := Lib.hid (show w.heap.size ≤ g0 by have := BB.out.size; omega)
  have hbb := BB.out.trans ((hb.trans (hbx.mono hb.size)).mono BB.out.size)
  clear hrow hs0 hs1 ho0 ho1 hb hg0 hbx
  generalize w0.alloc (.cells #[.int .i64 1, .int .i64 10, .slice (some ⟨g0, 0, none⟩) N N, .int .u64 0, .slice R0 1 ra0, .slice S0 1 sa0] 52) = x0 at W0 hbb ⊢
  generalize w0.heap.size = b0 at W0 ⊢
  rw [← hz0] at W0
  have HREL := Lib.hid (And.intro W0 hbb)
  clear W0 hbb BB hz0
  go_wp2_with fail
  go_loopw [10, 11, 12, 13] (fun vk vw va vi wr => ∃ i, i ≤ n ∧ vk = .int .u64 (keyF gs i : Int) ∧ vw = .int .i64 (wantF gs k i : Int) ∧ va = .bool (anyF mf i) ∧ vi = .int .i64 (i : Int) ∧ WdO wr b0 1 10 g0 N R0 1 ra0 S0 sa0 (layG gs mf i) (zerosS 1) (zerosS 1) ∧ Below w.heap.size w wr) (fun _ _ _ vi _ => n - (intOf vi).toNat)
  case atStart => exact ⟨0, Nat.zero_le _, rfl, rfl, rfl, rfl, HREL.out.1, HREL.out.2⟩
  case round =>
    clear HREL x0
    obtain ⟨i, hin, rfl, rfl, rfl, rfl, hwd, hbw⟩ := hrel
    have WD := Lib.hid hwd
    have BW := Lib.hid hbw
    clear hwd hbw
    have HIN := Lib.hid hin
    by_cases hi : i < n
    · have d3 : decide ((i : Int) < (n : Int)) = true := by rw [decide_eq_true_iff]; omega
      have d3n : decide (i < n) = true := by rw [decide_eq_true_iff]; omega
      have hkl := keyF_lt HGG.out.1 i
      have hgl := HGG.out.1 i
      have h10 := KB.out.1
      have hAX := AtB.later HX BW.out
      obtain ⟨xb, xo, rfl, _, hxc⟩ := hAX.2.2.2 (by omega)
      have x1 := hxc i hi
      rw [show xs.getD i 0 = gs i by rw [HGG.out.2]] at x1
      clear hxc hAX
      have j1 : (0 : Int) ≤ (i : Int) := by omega
      have j2 : (i : Int) < (n : Int) := by omega
      have j3 : (i : Int) < (mn : Int) := by have := KB.out.2.1; omega
      have hIG : ∀ w, Calls Tryz.prog 20 #[.int .i64 1, .int .i64 (i : Int)] w fun e w' => e = .returned (.int .i64 (nextN 1 i : Nat)) ∧ w = w' := fun w => refNext_any 1 i (by decide) (by omega) w
      have hRG : ∀ w, Calls Tryz.prog 20 #[.int .i64 1, .int .i64 ((i + 1 : Nat) : Int)] w fun e w' => e = .returned (.int .i64 (nextN 1 (i + 1) : Nat)) ∧ w = w' := fun w => refNext_any 1 (i + 1) (by decide) (by omega) w
      have hF1 : ∀ w, Calls Tryz.prog 17 #[.int .i64 1, .int .i64 ((i + 1 : Nat) : Int), .int .i64 1] w fun e w' => e = .returned (.int .i64 (fieldN 1 (i + 1) 1 : Nat)) ∧ w = w' := fun w => refField_any 1 (i + 1) 1 (by decide) (by omega) (by omega) (by decide) w
      have hF2 : ∀ w, Calls Tryz.prog 17 #[.int .i64 1, .int .i64 ((i + 1 : Nat) : Int), .int .i64 2] w fun e w' => e = .returned (.int .i64 (fieldN 1 (i + 1) 2 : Nat)) ∧ w = w' := fun w => refField_any 1 (i + 1) 2 (by decide) (by omega) (by omega) (by decide) w
      have q1 : fieldN 1 (i + 1) 1 < N := by have := HNN.out; unfold fieldN; omega
      have q2 : fieldN 1 (i + 1) 2 < N := by have := HNN.out; unfold fieldN; omega
      have q3 : nextN 1 i < N := by have := HNN.out; unfold nextN fieldN; split <;> omega
      have q4 : nextN 1 (i + 1) < N := by have := HNN.out; unfold nextN fieldN; split <;> omega
      have hm1 := markOf_le mf i
      have hwl := wantF_le gs k i
      have LI := (LA.out i (by omega)).last
      have hGK : layK i (keyF gs (i + 1)) (layG gs mf i) = setW (layG gs mf i) (fieldN 1 (i + 1) 1) (keyF gs (i + 1)) := rfl
      have hGF : layF i (layK i (keyF gs (i + 1)) (layG gs mf i)) = setW (layK i (keyF gs (i + 1)) (layG gs mf i)) (fieldN 1 (i + 1) 2) (4 * (i + 1)) := rfl
      have e0 : layF i (layK i (keyF gs (i + 1)) (layG gs mf i)) (nextN 1 i) = markOf mf i := by
        unfold layF layK
        rw [setW_ne (nextN_field (by omega) (by decide) (by decide)), setW_ne (nextN_field (by omega) (by decide) (by decide)), LI]
      have hGN : layN i (layF i (layK i (keyF gs (i + 1)) (layG gs mf i))) = setW (layF i (layK i (keyF gs (i + 1)) (layG gs mf i))) (nextN 1 i) (markOf mf i + 2 * (i + 1)) := by
        conv => lhs; unfold layN
        rw [e0]
      have hGM : layM i true (layN i (layF i (layK i (keyF gs (i + 1)) (layG gs mf i)))) = setW (layN i (layF i (layK i (keyF gs (i + 1)) (layG gs mf i)))) (nextN 1 (i + 1)) 1 := by unfold layM; rw [if_pos rfl]
      have hGM0 : layM i false (layN i (layF i (layK i (keyF gs (i + 1)) (layG gs mf i)))) = layN i (layF i (layK i (keyF gs (i + 1)) (layG gs mf i))) := by unfold layM; rw [if_neg (by decide)]
      have hGS : layG gs mf (i + 1) = layM i (mf i) (layN i (layF i (layK i (keyF gs (i + 1)) (layG gs mf i)))) := rfl
      have hKS : keyF gs (i + 1) = keyF gs i + 1 + gs i := rfl
      have hWS : wantF gs k (i + 1) = if wantF gs k i = 0 then (if k ≤ keyF gs (i + 1) then i + 1 else 0) else wantF gs k i := rfl
      have hAS : anyF mf (i + 1) = if mf i = true then true else anyF mf i := rfl
      have hrow0 : ∀ x, WdO x b0 1 10 g0 N R0 1 ra0 S0 sa0 (layF i (layK i (keyF gs (i + 1)) (layG gs mf i))) (zerosS 1) (zerosS 1) → x.cell? ⟨g0, nextN 1 i, none⟩ = some (.int .u64 ((markOf mf i : Nat) : Int)) := fun x hx => by rw [← e0]; exact hx.row.2.2.1 _ q3
      clear e0 LI
      -- letters
      obtain ⟨r, hr⟩ : ∃ r, i + 1 = r := ⟨_, rfl⟩
      rw [hr] at hRG hF1 hF2 q1 q2 q4 hGK hGF hGN hGM hGM0 hGS hKS hWS hAS hrow0
      have HR := Lib.hid hr
      have er : IntKind.i64.wrap ((i : Int) + 1) = (r : Int) := by rw [IntKind.wrap_i64]; omega
      obtain ⟨f4, hf4⟩ : ∃ x, 4 * r = x := ⟨_, rfl⟩
      have e4 : IntKind.i64.wrap (4 * (r : Int)) = (f4 : Int) := by rw [IntKind.wrap_i64]; omega
      have e5 : IntKind.u64.wrap (f4 : Int) = (f4 : Int) := by rw [IntKind.wrap_u64]; omega
      obtain ⟨r2, hr2⟩ : ∃ x, 2 * r = x := ⟨_, rfl⟩
      have e6 : IntKind.i64.wrap (2 * (r : Int)) = (r2 : Int) := by rw [IntKind.wrap_i64]; omega
      have e7 : IntKind.u64.wrap (r2 : Int) = (r2 : Int) := by rw [IntKind.wrap_u64]; omega
      obtain ⟨K1, hK1⟩ : ∃ x, keyF gs r = x := ⟨_, rfl⟩
      rw [hK1] at hGK hGF hGN hGM hGM0 hGS hKS hWS hrow0
      obtain ⟨K0, hK0⟩ : ∃ x, keyF gs i = x := ⟨_, rfl⟩
      rw [hK0] at hKS hkl ⊢
      obtain ⟨y, hy⟩ : ∃ x, gs i = x := ⟨_, rfl⟩
      rw [hy] at hKS hgl x1
      obtain ⟨K2, hK2⟩ : ∃ x, K0 + 1 = x := ⟨_, rfl⟩
      have e1 : IntKind.u64.wrap ((K0 : Int) + 1) = (K2 : Int) := by rw [IntKind.wrap_u64]; omega
      have e2 : IntKind.u64.wrap (y : Int) = (y : Int) := by rw [IntKind.wrap_u64]; omega
      have e3 : IntKind.u64.wrap ((K2 : Int) + (y : Int)) = (K1 : Int) := by rw [IntKind.wrap_u64]; omega
      obtain ⟨mi, hmi⟩ : ∃ x, markOf mf i = x := ⟨_, rfl⟩
      rw [hmi] at hm1 hGN hrow0
      obtain ⟨h2, hh2⟩ : ∃ x, mi + r2 = x := ⟨_, rfl⟩
      have e8 : IntKind.u64.wrap ((mi : Int) + (r2 : Int)) = (h2 : Int) := by rw [IntKind.wrap_u64]; omega
      rw [hr2, hh2] at hGN
      rw [hf4] at hGF
      have ek : IntKind.u64.wrap (k : Int) = (k : Int) := by have := KB.out.2.2; rw [IntKind.wrap_u64]; omega
      obtain ⟨GA, hGA⟩ : ∃ G, layG gs mf i = G := ⟨_, rfl⟩
      rw [hGA] at WD hGK hGF hGN hGM hGM0 hGS hrow0
      obtain ⟨GB, hGB⟩ : ∃ G, layK i K1 GA = G := ⟨_, rfl⟩
      rw [hGB] at hGK hGF hGN hGM hGM0 hGS hrow0
      obtain ⟨GC, hGC⟩ : ∃ G, layF i GB = G := ⟨_, rfl⟩
      rw [hGC] at hGF hGN hGM hGM0 hGS hrow0
      obtain ⟨GD, hGD⟩ : ∃ G, layN i GC = G := ⟨_, rfl⟩
      rw [hGD] at hGN hGM hGM0 hGS
      obtain ⟨GE, hGE⟩ : ∃ G, layM i true GD = G := ⟨_, rfl⟩
      rw [hGE] at hGM
      obtain ⟨p1, hp1⟩ : ∃ x, fieldN 1 r 1 = x := ⟨_, rfl⟩
      obtain ⟨p2, hp2⟩ : ∃ x, fieldN 1 r 2 = x := ⟨_, rfl⟩
      obtain ⟨p3, hp3⟩ : ∃ x, nextN 1 i = x := ⟨_, rfl⟩
      obtain ⟨p4, hp4⟩ : ∃ x, nextN 1 r = x := ⟨_, rfl⟩
      rw [hp1] at hF1 q1 hGK
      rw [hp2] at hF2 q2 hGF
      rw [hp3] at hIG q3 hGN hrow0
      rw [hp4] at hRG q4 hGM
      obtain ⟨wi, hwi⟩ : ∃ x, wantF gs k i = x := ⟨_, rfl⟩
      rw [hwi] at hwl hWS ⊢
      obtain ⟨ai, hai⟩ : ∃ x, anyF mf i = x := ⟨_, rfl⟩
      rw [hai] at hAS ⊢
      have HS := Lib.hid (And.intro hGS (And.intro hK1 (And.intro hWS (And.intro hAS hGE))))
      have HGM := Lib.hid (And.intro hGK (And.intro hGF (And.intro hGN (And.intro hGM hGM0))))
      have hv1 : K1 < 18446744073709551616 := by omega
      have hv2 : f4 < 18446744073709551616 := by omega
      have hv3 : h2 < 18446744073709551616 := by omega
      have HL := Lib.hid (And.intro hv1 (And.intro hv2 (And.intro hv3 (And.intro hwl h10))))
      have HRW := Lib.hid hrow0
      clear hGS hK1 hWS hAS hGK hGF hGN hGM hGM0 hv1 hv2 hv3 hwl h10 hr hf4 hr2 hK0 hy hK2 hmi hh2 hGA hGB hGC hGD hGE hp1 hp2 hp3 hp4 hwi hai hKS hkl hgl hm1 hin hrow0
      go_upto_region 14 with fail
      obtain ⟨c0, c1, c2, c3, c4, c5⟩ := WD.out.cells
      have i1 : (0 : Int) ≤ (p1 : Int) := by omega
      have i2 : (p1 : Int) < (N : Int) := by have := q1; omega
      have i3 := WD.out.row.2.2.1 p1 q1
      have i4 := WD.out.row.2.2.2 p1
      go_cut [] from 49 to 55 (fun wx => WdO wx b0 1 10 g0 N R0 1 ra0 S0 sa0 GB (zerosS 1) (zerosS 1) ∧ Below w.heap.size w wx)
      case first =>
        go_region_with ((go_at_call 17; (with_reducible refine (hF1 _).mono ?_); rintro e w' ⟨rfl, rfl⟩))
        all_goals
          go_wp2_with fail
          go_meet
          have hput := WD.out.put p1 K1 q1 HL.out.1
          rw [HGM.out.1.symm] at hput
          have hg := HG0.out
          have hbb := BW.out
          exact ⟨by first | exact hput | exact hput.later (Below.drew (Below.refl _ _)), by repeat (first | with_reducible assumption | with_reducible refine Below.drew ?_ | (with_reducible refine below_set1 (by omega) _ ?_))⟩
      obtain ⟨hwn, hbn⟩ := hcut
      clear c0 c1 c2 c3 c4 c5 i1 i2 i3 i4 WD BW
      have WD := Lib.hid hwn
      have BW := Lib.hid hbn
      clear hwn hbn
      clear e1 e2 e3 hF1 x1
      go_upto_region 15 with fail
      obtain ⟨c0, c1, c2, c3, c4, c5⟩ := WD.out.cells
      have i1 : (0 : Int) ≤ (p2 : Int) := by omega
      have i2 : (p2 : Int) < (N : Int) := by have := q2; omega
      have i3 := WD.out.row.2.2.1 p2 q2
      have i4 := WD.out.row.2.2.2 p2
      go_cut [] from 56 to 64 (fun wx => WdO wx b0 1 10 g0 N R0 1 ra0 S0 sa0 GC (zerosS 1) (zerosS 1) ∧ Below w.heap.size w wx)
      case first =>
        go_region_with ((go_at_call 17; (with_reducible refine (hF2 _).mono ?_); rintro e w' ⟨rfl, rfl⟩))
        all_goals
          go_wp2_with fail
          go_meet
          have hput := WD.out.put p2 f4 q2 HL.out.2.1
          rw [HGM.out.2.1.symm] at hput
          have hg := HG0.out
          have hbb := BW.out
          exact ⟨by first | exact hput | exact hput.later (Below.drew (Below.refl _ _)), by repeat (first | with_reducible assumption | with_reducible refine Below.drew ?_ | (with_reducible refine below_set1 (by omega) _ ?_))⟩
      obtain ⟨hwn, hbn⟩ := hcut
      clear c0 c1 c2 c3 c4 c5 i1 i2 i3 i4 WD BW
      have WD := Lib.hid hwn
      have BW := Lib.hid hbn
      clear hwn hbn
      clear e4 e5 hF2
      have i5 := HRW.out _ WD.out
      go_upto_region 16 with fail
      obtain ⟨c0, c1, c2, c3, c4, c5⟩ := WD.out.cells
      have i1 : (0 : Int) ≤ (p3 : Int) := by omega
      have i2 : (p3 : Int) < (N : Int) := by have := q3; omega
      have i3 := WD.out.row.2.2.1 p3 q3
      have i4 := WD.out.row.2.2.2 p3
      go_cut [] from 65 to 81 (fun wx => WdO wx b0 1 10 g0 N R0 1 ra0 S0 sa0 GD (zerosS 1) (zerosS 1) ∧ Below w.heap.size w wx)
      case first =>
        go_region_with ((go_at_call 20; (with_reducible refine (hIG _).mono ?_); rintro e w' ⟨rfl, rfl⟩))
        all_goals
          go_wp2_with fail
          go_meet
          have hput := WD.out.put p3 h2 q3 HL.out.2.2.1
          rw [HGM.out.2.2.1.symm] at hput
          have hg := HG0.out
          have hbb := BW.out
          exact ⟨by first | exact hput | exact hput.later (Below.drew (Below.refl _ _)), by repeat (first | with_reducible assumption | with_reducible refine Below.drew ?_ | (with_reducible refine below_set1 (by omega) _ ?_))⟩
      obtain ⟨hwn, hbn⟩ := hcut
      clear i5 c0 c1 c2 c3 c4 c5 i1 i2 i3 i4 WD BW
      have WD := Lib.hid hwn
      have BW := Lib.hid hbn
      clear hwn hbn
      clear e6 e7 e8 hIG
      obtain ⟨mb, mo, rfl, _, hmc⟩ := (HM.out.later BW.out).2 (by have := KB.out.2.1; omega)
      have x2 := hmc i (by have := KB.out.2.1; omega)
      clear hmc
      cases hmf : mf i with
      | true =>
        rw [hmf] at x2
        go_upto_region 18 with fail
        clear x2
        obtain ⟨c0, c1, c2, c3, c4, c5⟩ := WD.out.cells
        have i1 : (0 : Int) ≤ (p4 : Int) := by omega
        have i2 : (p4 : Int) < (N : Int) := by have := q4; omega
        have i3 := WD.out.row.2.2.1 p4 q4
        have i4 := WD.out.row.2.2.2 p4
        go_cut [] from 86 to 91 (fun wx => WdO wx b0 1 10 g0 N R0 1 ra0 S0 sa0 GE (zerosS 1) (zerosS 1) ∧ Below w.heap.size w wx)
        case first =>
          go_region_with ((go_at_call 20; (with_reducible refine (hRG _).mono ?_); rintro e w' ⟨rfl, rfl⟩))
          all_goals
            go_wp2_with fail
            go_meet
            have hput := WD.out.put p4 1 q4 (by decide)
            rw [HGM.out.2.2.2.1.symm] at hput
            have hg := HG0.out
            have hbb := BW.out
            exact ⟨by first | exact hput | exact hput.later (Below.drew (Below.refl _ _)), by repeat (first | with_reducible assumption | with_reducible refine Below.drew ?_ | (with_reducible refine below_set1 (by omega) _ ?_))⟩
        obtain ⟨hwn, hbn⟩ := hcut
        clear c0 c1 c2 c3 c4 c5 i1 i2 i3 i4 WD BW
        have WD := Lib.hid hwn
        have BW := Lib.hid hbn
        clear hwn hbn
        by_cases hw0 : wi = 0
        · have dw : ((wi : Int) == 0) = true := by rw [beq_iff_eq]; omega
          by_cases hkk : k ≤ K1
          · have dk : decide (k ≤ K1) = true := by rw [decide_eq_true_iff]; omega
            go_wp2_with fail
            go_roundw
            case rel => exact ⟨r, by have := HR.out; omega, by rw [HS.out.2.1], by rw [HS.out.2.2.1, if_pos hw0, if_pos hkk], by rw [HS.out.2.2.2.1, hmf, if_pos rfl], rfl, by rw [HS.out.1, hmf, HS.out.2.2.2.2]; exact WD.out, BW.out⟩
            case measure => have := HR.out; simp [intOf]; omega
          · have dk : decide (k ≤ K1) = false := by rw [decide_eq_false_iff_not]; omega
            go_wp2_with fail
            go_roundw
            case rel => exact ⟨r, by have := HR.out; omega, by rw [HS.out.2.1], by rw [HS.out.2.2.1, if_pos hw0, if_neg hkk, hw0], by rw [HS.out.2.2.2.1, hmf, if_pos rfl], rfl, by rw [HS.out.1, hmf, HS.out.2.2.2.2]; exact WD.out, BW.out⟩
            case measure => have := HR.out; simp [intOf]; omega
        · have dw : ((wi : Int) == 0) = false := by rw [beq_eq_false_iff_ne]; omega
          go_wp2_with fail
          go_roundw
          case rel => exact ⟨r, by have := HR.out; omega, by rw [HS.out.2.1], by rw [HS.out.2.2.1, if_neg hw0], by rw [HS.out.2.2.2.1, hmf, if_pos rfl], rfl, by rw [HS.out.1, hmf, HS.out.2.2.2.2]; exact WD.out, BW.out⟩
          case measure => have := HR.out; simp [intOf]; omega
      | false =>
        rw [hmf] at x2
        by_cases hw0 : wi = 0
        · have dw : ((wi : Int) == 0) = true := by rw [beq_iff_eq]; omega
          by_cases hkk : k ≤ K1
          · have dk : decide (k ≤ K1) = true := by rw [decide_eq_true_iff]; omega
            go_wp2_with fail
            go_roundw
            case rel => exact ⟨r, by have := HR.out; omega, by rw [HS.out.2.1], by rw [HS.out.2.2.1, if_pos hw0, if_pos hkk], by rw [HS.out.2.2.2.1, hmf, if_neg (by decide)], rfl, by rw [HS.out.1, hmf, HGM.out.2.2.2.2]; exact WD.out, BW.out⟩
            case measure => have := HR.out; simp [intOf]; omega
          · have dk : decide (k ≤ K1) = false := by rw [decide_eq_false_iff_not]; omega
            go_wp2_with fail
            go_roundw
            case rel => exact ⟨r, by have := HR.out; omega, by rw [HS.out.2.1], by rw [HS.out.2.2.1, if_pos hw0, if_neg hkk, hw0], by rw [HS.out.2.2.2.1, hmf, if_neg (by decide)], rfl, by rw [HS.out.1, hmf, HGM.out.2.2.2.2]; exact WD.out, BW.out⟩
            case measure => have := HR.out; simp [intOf]; omega
        · have dw : ((wi : Int) == 0) = false := by rw [beq_eq_false_iff_ne]; omega
          go_wp2_with fail
          go_roundw
          case rel => exact ⟨r, by have := HR.out; omega, by rw [HS.out.2.1], by rw [HS.out.2.2.1, if_neg hw0], by rw [HS.out.2.2.2.1, hmf, if_neg (by decide)], rfl, by rw [HS.out.1, hmf, HGM.out.2.2.2.2]; exact WD.out, BW.out⟩
          case measure => have := HR.out; simp [intOf]; omega
    · have hin' : i = n := by have := HIN.out; omega
      subst hin'
      have d3 : decide ((i : Int) < (i : Int)) = false := by rw [decide_eq_false_iff_not]; omega
      have d3n : decide (i < i) = false := by rw [decide_eq_false_iff_not]; omega
      have h89 := HNN.out
      have hnl := KB.out.1
      have hk16 := KB.out.2.2
      have ek : IntKind.u64.wrap (k : Int) = (k : Int) := by rw [IntKind.wrap_u64]; omega
      have hwl := wantF_le gs k i
      have LL := LA.out i hnl
      obtain ⟨WN, hWN⟩ : ∃ x, wantF gs k i = x := ⟨_, rfl⟩
      obtain ⟨ib, hib⟩ : ∃ x, isF gs k i = x := ⟨_, rfl⟩
      have hisw : ib = decide (WN ≠ 0 ∧ keyF gs WN = k) := by rw [← hib, ← hWN]; rfl
      have C1 : ∀ (A : Option Addr) (ka : Nat) (R : Option Addr) (ra : Nat) (S : Option Addr) (sa : Nat) (w : World), Hid (Tab w) → Hid (AtW w A N (layG gs mf i)) → Hid (StmsAt w R 1 (zerosS 1)) → Hid (StmsAt w S 1 (zerosS 1)) →
          Calls Tryz.prog 16 #[.agg #[.int .i64 1, .int .i64 10, .slice A N ka, .int .u64 0, .slice R 1 ra, .slice S 1 sa], .int .i64 0, .agg #[.int .i64 25, .int .i64 0, .int .i64 0, .int .u64 (k : Int)], .int .i64 60] w (AloneL w 1 10 A N R S 1 (layG gs mf i) (zerosS 1) (zerosS 1) 0 ib WN 0) := fun A ka R ra S sa w h0 h1 h2 h3 => by
        obtain ⟨j, hj, hs⟩ := HCON.out.1
        rw [hWN, hib] at hs
        have h := lAloneN 1 (by decide) 0 (by decide) 10 25 0 0 k (by omega) ⟨fun h => absurd h (by decide), fun h => absurd h (by decide), fun _ => by decide⟩ 60 (by decide) N (by omega) (by decide) _ (zerosS 1) (zerosS 1) _ _ j hs hj A ka R ra S sa w h0 h1 h2 h3
        have eN : lN 25 (2 * WN + if ib = true then 1 else 0) = WN := by
          show (2 * WN + if ib = true then 1 else 0) / 2 = WN
          split <;> omega
        have eI : lIs 25 (2 * WN + if ib = true then 1 else 0) = ib := by
          show decide ((2 * WN + if ib = true then 1 else 0) % 2 = 1) = ib
          cases ib
          · rw [decide_eq_false_iff_not]; simp
          · rw [decide_eq_true_iff]; simp
        rw [eN, eI] at h
        exact h
      have C2 : ∃ (GF : Nat → Nat) (lF : List Stm) (er : Int) (oi : Bool) (MM P : Nat), (anyF mf i = false → oi = ib ∧ MM = WN) ∧ ∀ (A : Option Addr) (ka : Nat) (R : Option Addr) (ra : Nat) (S : Option Addr) (sa : Nat) (w : World), Hid (Tab w) → Hid (AtW w A N (layG gs mf i)) → Hid (StmsAt w R 1 (zerosS 1)) → Hid (StmsAt w S 1 (zerosS 1)) →
          Calls Tryz.prog 16 #[.agg #[.int .i64 1, .int .i64 10, .slice A N ka, .int .u64 0, .slice R 1 ra, .slice S 1 sa], .int .i64 0, .agg #[.int .i64 8, .int .i64 0, .int .i64 0, .int .u64 (k : Int)], .int .i64 400] w (AloneL w 1 10 A N R S 1 GF lF (zerosS 1) er oi MM P) := by
        cases ha : anyF mf i with
        | true =>
          obtain ⟨d, W', j, hj, hs⟩ := HCON.out.2.2
          exact ⟨W'.1, W'.2, lErr 8 d, lIs 8 d, lN 8 d, lW 8 d, fun h => (by cases h), fun A ka R ra S sa w h0 h1 h2 h3 => lAloneN 1 (by decide) 0 (by decide) 10 8 0 0 k (by omega) ⟨fun h => absurd h (by decide), fun h => absurd h (by decide), fun h => absurd h (by decide)⟩ 400 (by decide) N (by omega) (by decide) _ (zerosS 1) (zerosS 1) d W' j hs hj A ka R ra S sa w h0 h1 h2 h3⟩
        | false =>
          obtain ⟨j, p', hj, hp', hs⟩ := HCON.out.2.1 ha
          rw [hWN, hib] at hs
          obtain ⟨cc, hcc⟩ : ∃ x, (if WN = 0 then 0 else if ib = true then 3 else 2) = x := ⟨_, rfl⟩
          rw [hcc] at hs
          have hc4 : cc < 4 := by rw [← hcc]; split; decide; split <;> decide
          have eI : lIs 8 (encS p' WN cc) = ib := by
            show ((codS (encS p' WN cc) : Int) == 3) = ib
            rw [codS_enc hc4, ← hcc]
            by_cases h0 : WN = 0
            · rw [if_pos h0, hisw]; simp [h0]
            · rw [if_neg h0]; cases ib <;> rfl
          have eN : lN 8 (encS p' WN cc) = WN := curS_enc (by omega) hc4
          refine ⟨layG gs mf i, zerosS 1, lErr 8 (encS p' WN cc), ib, WN, lW 8 (encS p' WN cc), fun _ => ⟨rfl, rfl⟩, fun A ka R ra S sa w h0 h1 h2 h3 => ?_⟩
          have h := lAloneN 1 (by decide) 0 (by decide) 10 8 0 0 k (by omega) ⟨fun h => absurd h (by decide), fun h => absurd h (by decide), fun h => absurd h (by decide)⟩ 400 (by decide) N (by omega) (by decide) _ (zerosS 1) (zerosS 1) _ _ j hs hj A ka R ra S sa w h0 h1 h2 h3
          rw [eI, eN] at h
          exact h
      obtain ⟨GF, lF, er, oi, MM, P, hsame, C2⟩ := C2
      have HSM := Lib.hid hsame
      have HIS := Lib.hid hisw
      have hfw : ∀ w, Calls Tryz.prog 17 #[.int .i64 1, .int .i64 ((max WN 1 : Nat) : Int), .int .i64 1] w fun e w' => e = .returned (.int .i64 (fieldN 1 (max WN 1) 1 : Nat)) ∧ w = w' := fun w => refField_any 1 (max WN 1) 1 (by decide) (by omega) (by omega) (by decide) w
      have hq5 : fieldN 1 (max WN 1) 1 < N := by unfold fieldN; omega
      have hkey : WN ≠ 0 → layG gs mf i (fieldN 1 (max WN 1) 1) = keyF gs WN := fun h => by rw [show max WN 1 = WN by omega]; exact LL.key WN (by omega) (by omega)
      have HKY := Lib.hid (And.intro hkey (And.intro hq5 (And.intro hwl h89)))
      obtain ⟨GG, hGG⟩ : ∃ G, layG gs mf i = G := ⟨_, rfl⟩
      rw [hGG] at C1 C2 WD HKY
      obtain ⟨ai, hai⟩ : ∃ x, anyF mf i = x := ⟨_, rfl⟩
      rw [hai] at HSM ⊢
      rw [hWN] at ⊢
      have HTB := Tab.later HTab BW.out
      clear hsame hisw hkey hq5 hwl h89 LL hGG hai hWN hib HCON LA hk16 hnl
      obtain ⟨c0, c1, c2, c3, c4, c5⟩ := WD.out.cells
      go_wp2_with fail
      (with_reducible refine (C1 _ _ _ _ _ _ _ HTB (Lib.hid WD.out.row.at_) (Lib.hid WD.out.s0) (Lib.hid WD.out.s1)).mono ?_)
      clear c0 c1 c2 c3 c4 c5 C1
      rintro e w2 ⟨A1, ka1, R1, ra1, S1, sa1, rfl, ha, hs0, hs1, hb, hP⟩
      go_upto_region 23 with fail
      have hbx : Below w2.heap.size w2 ((w2.alloc (.cells #[.int .i64 1, .int .i64 10, .slice A1 N ka1, .int .u64 0, .slice R1 1 ra1, .slice S1 1 sa1] 52)).alloc (.cells #[.int .i64 0, .bool ib, .int .i64 (WN : Int), .int .u64 0, .slice none 0 0] 38)) := below_pair _ _ _
      have W1 := Lib.hid (WdAt.made (t := 1) (c := 10) (k := ka1) (r := 0) (ra := ra1) (sa := sa1) w2 (.cells #[.int .i64 0, .bool ib, .int .i64 (WN : Int), .int .u64 0, .slice none 0 0] 38) 52 ha hs0 hs1)
      have O1 := Lib.hid (VarAt.made1 w2 (.cells #[.int .i64 1, .int .i64 10, .slice A1 N ka1, .int .u64 0, .slice R1 1 ra1, .slice S1 1 sa1] 52) #[.int .i64 0, .bool ib, .int .i64 (WN : Int), .int .u64 0, .slice none 0 0] 38)
      have HBN := Lib.hid (hb.trans (hbx.mono hb.size))
      generalize (w2.alloc (.cells #[.int .i64 1, .int .i64 10, .slice A1 N ka1, .int .u64 0, .slice R1 1 ra1, .slice S1 1 sa1] 52)).alloc (.cells #[.int .i64 0, .bool ib, .int .i64 (WN : Int), .int .u64 0, .slice none 0 0] 38) = x1 at hbx HBN W1 O1 ⊢
      clear ha hs0 hs1 hb hP hbx
      obtain ⟨bb1, hbb1⟩ : ∃ b, w2.heap.size = b := ⟨_, rfl⟩
      rw [hbb1] at W1 O1 ⊢
      clear hbb1
      have BWn := Lib.hid (BW.out.trans (HBN.out.mono BW.out.size)); clear BW; have BW := BWn; clear BWn
      have WDn := Lib.hid (WD.out.later HBN.out); clear WD; have WD := WDn; clear WDn
      clear HBN
      have HT2 := Tab.later HTab BW.out
      obtain ⟨c0, c1, c2, c3, c4, c5⟩ := WD.out.cells
      go_wp2_with fail
      (with_reducible refine (C2 _ _ _ _ _ _ _ HT2 (Lib.hid WD.out.row.at_) (Lib.hid WD.out.s0) (Lib.hid WD.out.s1)).mono ?_)
      clear c0 c1 c2 c3 c4 c5 C2
      rintro e w3 ⟨A2, ka2, R2, ra2, S2, sa2, rfl, ha, hs0, hs1, hb, hP⟩
      go_upto_region 24 with fail
      have hbx : Below w3.heap.size w3 ((w3.alloc (.cells #[.int .i64 1, .int .i64 10, .slice A2 N ka2, .int .u64 0, .slice R2 1 ra2, .slice S2 1 sa2] 52)).alloc (.cells #[.int .i64 er, .bool oi, .int .i64 (MM : Int), .int .u64 (P : Int), .slice none 0 0] 38)) := below_pair _ _ _
      have W2 := Lib.hid (WdAt.made (t := 1) (c := 10) (k := ka2) (r := 0) (ra := ra2) (sa := sa2) w3 (.cells #[.int .i64 er, .bool oi, .int .i64 (MM : Int), .int .u64 (P : Int), .slice none 0 0] 38) 52 ha hs0 hs1)
      have O2 := Lib.hid (VarAt.made1 w3 (.cells #[.int .i64 1, .int .i64 10, .slice A2 N ka2, .int .u64 0, .slice R2 1 ra2, .slice S2 1 sa2] 52) #[.int .i64 er, .bool oi, .int .i64 (MM : Int), .int .u64 (P : Int), .slice none 0 0] 38)
      have HBN := Lib.hid (hb.trans (hbx.mono hb.size))
      generalize (w3.alloc (.cells #[.int .i64 1, .int .i64 10, .slice A2 N ka2, .int .u64 0, .slice R2 1 ra2, .slice S2 1 sa2] 52)).alloc (.cells #[.int .i64 er, .bool oi, .int .i64 (MM : Int), .int .u64 (P : Int), .slice none 0 0] 38) = x2 at hbx HBN W2 O2 ⊢
      clear ha hs0 hs1 hb hP hbx
      obtain ⟨bb2, hbb2⟩ : ∃ b, w3.heap.size = b := ⟨_, rfl⟩
      rw [hbb2] at W2 O2 ⊢
      clear hbb2
      have BWn := Lib.hid (BW.out.trans (HBN.out.mono BW.out.size)); clear BW; have BW := BWn; clear BWn
      have WDn := Lib.hid (WD.out.later HBN.out); clear WD; have WD := WDn; clear WDn
      have W1n := Lib.hid (W1.out.later HBN.out); clear W1; have W1 := W1n; clear W1n
      have O1n := Lib.hid (O1.out.below HBN.out); clear O1; have O1 := O1n; clear O1n
      clear HBN
      clear W2
      have dne : ((WN : Int) != (WN : Int)) = false := by rw [bne_eq_false_iff_eq]
      obtain ⟨_, ⟨o0, o1, o2, o3, o4⟩, _⟩ := O1.out.five
      obtain ⟨c0, c1, c2, c3, c4, c5⟩ := WD.out.cells
      obtain ⟨a0, a1, a2, a3, a4, a5⟩ := W1.out.cells
      have HSW : Calls Tryz.prog 22 #[.agg #[.int .i64 1, .int .i64 10, .slice A1 N ka1, .int .u64 0, .slice R1 1 ra1, .slice S1 1 sa1], .agg #[.int .i64 1, .int .i64 10, .slice (some ⟨g0, 0, none⟩) N N, .int .u64 0, .slice R0 1 ra0, .slice S0 1 sa0]] x2 (Kept x2 (.bool true)) := sameW_at 1 10 A1 (some ⟨g0, 0, none⟩) N ka1 N GG (by have := HKY.out.2.2.2; omega) 0 R1 1 ra1 S1 1 sa1 R0 ra0 S0 sa0 (zerosS 1) (zerosS 1) _ W1.out.gA (Lib.hid WD.out.row.at_) W1.out.g0 W1.out.g1 (Lib.hid WD.out.s0) (Lib.hid WD.out.s1)
      go_wp2_with fail
      (with_reducible refine HSW.mono ?_)
      clear HSW
      rintro e w5 ⟨rfl, hb5⟩
      have BWn := Lib.hid (BW.out.trans (hb5.mono BW.out.size)); clear BW; have BW := BWn; clear BWn
      have WDn := Lib.hid (WD.out.later hb5); clear WD; have WD := WDn; clear WDn
      have O1n := Lib.hid (O1.out.below hb5); clear O1; have O1 := O1n; clear O1n
      have O2n := Lib.hid (O2.out.below hb5); clear O2; have O2 := O2n; clear O2n
      clear hb5 W1 o0 o1 o2 o3 o4 c0 c1 c2 c3 c4 c5 a0 a1 a2 a3 a4 a5
      go_upto_region 26 with fail
      obtain ⟨_, ⟨o0, o1, o2, o3, o4⟩, _⟩ := O1.out.five
      obtain ⟨_, ⟨p0, p1, p2, p3, p4⟩, _⟩ := O2.out.five
      obtain ⟨c0, c1, c2, c3, c4, c5⟩ := WD.out.cells
      obtain ⟨pw, hpw⟩ : ∃ x, fieldN 1 (max WN 1) 1 = x := ⟨_, rfl⟩
      rw [hpw] at HKY hfw
      clear hpw
      have i1 : (0 : Int) ≤ (pw : Int) := by omega
      have i2 : (pw : Int) < (N : Int) := by have := HKY.out.2.1; omega
      have i3 := WD.out.row.2.2.1 pw HKY.out.2.1
      clear dne d1 d1n d2 d2n d3 d3n o0 o3 o4 p0 p3 p4 c0 c1 c3 c4 c5
      cases ai with
      | true =>
        by_cases h0 : WN = 0
        · have hf : ib = false := by rw [HIS.out, decide_eq_false_iff_not]; exact fun h => h.1 h0
          have dw : decide (0 < WN) = false := by rw [decide_eq_false_iff_not]; omega
          rw [hf] at o1
          clear h0 hf i3
          go_quiet (first | (go_at_call 17; with_reducible exact quiet_call (hfw _)))
          go_wp2_with fail
          go_ret
          exact ⟨rfl, below_draw BW.out _⟩
        · have dw : decide (0 < WN) = true := by rw [decide_eq_true_iff]; omega
          rw [show max WN 1 = WN by omega] at hfw
          have hmx : ∀ (ts : Array TypeId) (ty : TypeId) (w : World), (Builtin.max_ ts ty #[.int .i64 (WN : Int), .int .i64 1]).run Tryz.prog w = .ok (.int .i64 (WN : Int)) w := fun ts ty w => by
            have hz : ¬ ((1 : Int) > (WN : Int)) := by omega
            rw [run_max_int2, if_neg hz]
          rw [HKY.out.1 h0] at i3
          obtain ⟨kw, hkw⟩ : ∃ x, keyF gs WN = x := ⟨_, rfl⟩
          have hh := HIS.out
          rw [hkw] at i3 hh
          clear hkw
          by_cases hk2 : kw = k
          · have hf : ib = true := by rw [hh, decide_eq_true_iff]; exact ⟨h0, hk2⟩
            have de : ((kw : Int) == (k : Int)) = true := by rw [beq_iff_eq]; omega
            rw [hf] at o1
            clear hh hk2 hf
            go_quiet (first | (go_at_call 17; with_reducible exact quiet_call (hfw _)))
            go_wp2_with fail
            go_ret
            exact ⟨rfl, below_draw BW.out _⟩
          · have hf : ib = false := by rw [hh, decide_eq_false_iff_not]; exact fun h => hk2 h.2
            have de : ((kw : Int) == (k : Int)) = false := by rw [beq_eq_false_iff_ne]; omega
            rw [hf] at o1
            clear hh hk2 hf
            go_quiet (first | (go_at_call 17; with_reducible exact quiet_call (hfw _)))
            go_wp2_with fail
            go_ret
            exact ⟨rfl, below_draw BW.out _⟩
      | false =>
        obtain ⟨e1, e2⟩ := HSM.out rfl
        rw [e1] at p1
        rw [e2] at p2
        clear e1 e2
        have dq : ((WN : Int) == (WN : Int)) = true := by rw [beq_iff_eq]
        by_cases h0 : WN = 0
        · have hf : ib = false := by rw [HIS.out, decide_eq_false_iff_not]; exact fun h => h.1 h0
          have dw : decide (0 < WN) = false := by rw [decide_eq_false_iff_not]; omega
          rw [hf] at o1 p1
          clear h0 hf i3
          go_quiet (first | (go_at_call 17; with_reducible exact quiet_call (hfw _)))
          go_wp2_with fail
          go_ret
          exact ⟨rfl, below_draw BW.out _⟩
        · have dw : decide (0 < WN) = true := by rw [decide_eq_true_iff]; omega
          rw [show max WN 1 = WN by omega] at hfw
          have hmx : ∀ (ts : Array TypeId) (ty : TypeId) (w : World), (Builtin.max_ ts ty #[.int .i64 (WN : Int), .int .i64 1]).run Tryz.prog w = .ok (.int .i64 (WN : Int)) w := fun ts ty w => by
            have hz : ¬ ((1 : Int) > (WN : Int)) := by omega
            rw [run_max_int2, if_neg hz]
          rw [HKY.out.1 h0] at i3
          obtain ⟨kw, hkw⟩ : ∃ x, keyF gs WN = x := ⟨_, rfl⟩
          have hh := HIS.out
          rw [hkw] at i3 hh
          clear hkw
          by_cases hk2 : kw = k
          · have hf : ib = true := by rw [hh, decide_eq_true_iff]; exact ⟨h0, hk2⟩
            have de : ((kw : Int) == (k : Int)) = true := by rw [beq_iff_eq]; omega
            rw [hf] at o1 p1
            clear hh hk2 hf
            go_quiet (first | (go_at_call 17; with_reducible exact quiet_call (hfw _)))
            go_wp2_with fail
            go_ret
            exact ⟨rfl, below_draw BW.out _⟩
          · have hf : ib = false := by rw [hh, decide_eq_false_iff_not]; exact fun h => hk2 h.2
            have de : ((kw : Int) == (k : Int)) = false := by rw [beq_eq_false_iff_ne]; omega
            rw [hf] at o1 p1
            clear hh hk2 hf
            go_quiet (first | (go_at_call 17; with_reducible exact quiet_call (hfw _)))
            go_wp2_with fail
            go_ret
            exact ⟨rfl, below_draw BW.out _⟩
section
set_option maxRecDepth 100000
set_option maxHeartbeats 2000000
variable {H : Type} {enc : TypeId × Value → H} {w : World}
theorem open_a {v : Value} {d : DataW H} {ps : List MemPlace} {base : Nat} (hval : Value.okWide Tryz.prog w .any base 31 v) (h : DataW.Trod enc Tryz.prog w 0 (fun _ => true) true 31 v d ps) (hs : Sized Tryz.prog 31 d) (hlt : ∀ z ∈ ps, z.block < w.heap.size) :
    ∃ (aA : Option Addr) (aL aC : Nat) (ax : List Nat), v = .slice aA aL aC ∧ (aL ≤ aC ∧ aL ≤ 140737488355328 ∧ AtB w aA aL ax) := by
  obtain ⟨a0, len, cap, rfl⟩ := okWide_slice Tryz.underlying31 hval
  obtain ⟨fuel, hf0⟩ := h
  have hf : DataW.trod enc Tryz.prog w 0 (fun _ => true) true fuel 31 [.slice a0 len cap] = some (d, ps) := hf0
  obtain ⟨aA, aL, aC, ax, e0, ha⟩ := leaf_bytes hf hs hlt
  cases e0
  exact ⟨_, _, _, _, rfl, ha⟩
theorem open_b {v : Value} {d : DataW H} {ps : List MemPlace} {base : Nat} (hval : Value.okWide Tryz.prog w .any base 60 v) (h : DataW.Trod enc Tryz.prog w 0 (fun _ => true) true 60 v d ps) (hs : Sized Tryz.prog 60 d) (hlt : ∀ z ∈ ps, z.block < w.heap.size) :
    ∃ (bA : Option Addr) (bL bC : Nat) (bf : Nat → Bool), v = .slice bA bL bC ∧ (bL ≤ bC ∧ BlsAt w bA bL bf) := by
  obtain ⟨a0, len, cap, rfl⟩ := okWide_slice Tryz.underlying60 hval
  obtain ⟨fuel, hf0⟩ := h
  have hf : DataW.trod enc Tryz.prog w 0 (fun _ => true) true fuel 60 [.slice a0 len cap] = some (d, ps) := hf0
  obtain ⟨bA, bL, bC, bf, e0, hb⟩ := leaf_blsat hf hs hlt
  cases e0
  exact ⟨_, _, _, _, rfl, hb⟩
theorem open_k {v : Value} {d : DataW H} {ps : List MemPlace} {base : Nat} (hval : Value.okWide Tryz.prog w .any base 64 v) (h : DataW.Trod enc Tryz.prog w 0 (fun _ => true) true 64 v d ps) (hs : Sized Tryz.prog 64 d) (hlt : ∀ z ∈ ps, z.block < w.heap.size) :
    ∃ (k : Nat), v = .int .u16 (k : Int) ∧ k < 65536 := by
  obtain ⟨a0, rfl⟩ := okWide_int Tryz.underlying64 hval
  obtain ⟨fuel, hf0⟩ := h
  have hf : DataW.trod enc Tryz.prog w 0 (fun _ => true) true fuel 64 [.int .u16 a0] = some (d, ps) := hf0
  obtain ⟨k, e0, hk⟩ := leaf_u16 Tryz.underlying64 hf
  cases e0
  exact ⟨_, rfl, hk⟩
end

set_option maxRecDepth 100000 in
set_option maxHeartbeats 8000000 in
theorem lifted (os : Os) (started : os.Started) (H : Type) (enc : TypeId × Value → H) :
    ReturnsInHanded {} Tryz.checked os 6 .any (fun w args => (Rows.listSeeksSpec.pre enc Tryz.prog Tryz.f6 [] false w args ∧ laidMetH Tryz.prog laidHalf w) ∧ sizedMet enc Tryz.prog Tryz.f6 (OpenSpec.ofChange Rows.listSeeksSpec) false w args)
      (Rows.listSeeksSpec.post enc Tryz.prog Tryz.f6 false true false false) := by
  refine law_lifted_laid (C := Tryz.checked) (X := fun w _ => laidMetH Tryz.prog laidHalf w) (fun _ _ _ hh h => h.of_heap hh) own started (by kernel_rfl) Tryz.func6
    (ChangeSpec.witness_shaped (enc := enc) (C := Tryz.checked) (os := os) (X := fun w _ => laidMetH Tryz.prog laidHalf w) false (World.doorLaid Tryz.prog 400 os) #[.slice none 0 0, .slice none 0 0, .int .u16 0] 8 rfl (World.shaped_of_RefB (by kernel_rfl) (by kernel_rfl)) (by kernel_rfl) (by kernel_rfl) (by kernel_rfl) (door_met os _))
    (by kernel_rfl) (by kernel_rfl) Tryz.underlying4 rfl (by kernel_rfl) ?_
  intro W base args ds before hval hA hwt hlt hL
  have hTab := Lib.hid (tab_of_laid hL)
  have hA' : DataW.TrodAll enc Tryz.prog W 0 (fun _ => true) true Tryz.f6.params.toList args.toList ds before := hA
  have hval' : ∀ (j : Nat) t v, Tryz.f6.params[j]? = some t → args[j]? = some v → Value.okWide Tryz.prog W .any base t v := hval
  have hwt' : (DataW.weightsEach Tryz.prog Tryz.f6.params.toList ds).all (· ≤ reachBytes) = true := hwt
  rw [Tryz.params6] at hA' hval' hwt'
  obtain ⟨v0, vs0, d0, ds0, p0, q0, hargs, rfl, rfl, k0, r0⟩ := trodAll_cons hA'
  obtain ⟨v1, vs1, d1, ds1, p1, q1, rfl, rfl, rfl, k1, r1⟩ := trodAll_cons r0
  obtain ⟨v2, vs2, d2, ds2, p2, q2, rfl, rfl, rfl, k2, r2⟩ := trodAll_cons r1
  obtain ⟨rfl, rfl, rfl⟩ := trodAll_nil r2
  obtain rfl : args = #[v0, v1, v2] := by cases args; simp_all
  obtain ⟨aA, aL, aC, ax, rfl, ha⟩ := open_a (hval' 0 31 v0 rfl rfl) k0 (sized_of hwt' (j := 0) (t := 31) rfl rfl) (fun x hx => hlt x (by simp [hx]))
  obtain ⟨bA, bL, bC, bf, rfl, hb⟩ := open_b (hval' 1 60 v1 rfl rfl) k1 (sized_of hwt' (j := 1) (t := 60) rfl rfl) (fun x hx => hlt x (by simp [hx]))
  obtain ⟨k, rfl, hk⟩ := open_k (hval' 2 64 v2 rfl rfl) k2 (sized_of hwt' (j := 2) (t := 64) rfl rfl) (fun x hx => hlt x (by simp [hx]))
  refine ⟨rfl, ?_⟩
  obtain ⟨hac, hal, haat⟩ := ha
  obtain ⟨hbc, hbat⟩ := hb
  by_cases hn : 10 < aL
  · exact walkLong aA aL aC ax bA bL bC bf k hn W hTab (Lib.hid haat) (Lib.hid hbat)
  by_cases hm : bL < aL
  · exact walkFew aA aL aC ax bA bL bC bf k (by omega) hm W hTab (Lib.hid haat) (Lib.hid hbat)
  exact walkMain aA aL aC ax bA bL bC bf k (by omega) (by omega) hk W hTab (Lib.hid haat) (Lib.hid hbat)

theorem over : Rows.listSeeksRow.holds Tryz.pinned (OpenSpec.ofChange Rows.listSeeksSpec) :=
  OpenClaim.holds_of_wide 6 Tryz.f6 rfl rfl rfl rfl rfl rfl rfl ⟨rfl, rfl, rfl, rfl, rfl⟩ rfl rfl rfl rfl rfl (by kernel_rfl) Tryz.func6 (by kernel_rfl)
    (of_decide_eq_true (by kernel_rfl)) (by unfold Func.isWrapper; first | (rw [if_pos (by decide +kernel)]; kernel_rfl) | (rw [if_neg (by decide +kernel)]; exact ⟨rfl, rfl⟩))
    (fun os started H enc _ => lifted os started H enc)

/-- The statement: the card, tied to the program's text. -/
theorem proved : Rows.ListSeeksCardSaid :=
  Claim7.holds_tied_plain_at .later [] [.data] true (true, "97693e1de03b7a74ed171c13c226b2890c188fd9342758778dee155e8bb7bd7e") true
    over (fun _ h => by cases h) (by kernel_rfl) (fun _ h => by cases h) listSeeks_row_tie rfl ⟨rfl, rfl⟩ (by kernel_rfl) rfl
    (fun f fn hf hfn => by
      obtain rfl : f = 6 := Option.some.inj ((show Tryz.prog.funcNamed "weald/wealdlaw15.ListSeeks" = some 6 by kernel_rfl).symm.trans hf) |>.symm
      obtain rfl : fn = Tryz.f6 := (Option.some.inj (Tryz.func6.symm.trans hfn)).symm
      exact ⟨by kernel_rfl, fun j t ht => by
        rw [Tryz.params6] at ht
        have hm : t ∈ [31, 60, 64] := by simpa using Array.mem_of_getElem? ht
        have hall : ([31, 60, 64].all fun u => !Tryz.prog.wantsStandIn u) = true := by kernel_rfl
        exact (show Tryz.prog.wantsStandIn t = false by simpa using List.all_eq_true.1 hall t hm)⟩)
    (by kernel_rfl)
#print axioms proved
end Go.Proofs.YtkfodhkeajmbhaaGreatDoor.listSeeks
