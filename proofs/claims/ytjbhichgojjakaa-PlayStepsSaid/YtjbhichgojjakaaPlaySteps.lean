/-
  PlaySteps: played on a world, an access a step, a row of accesses is done behind as many steps as it has, with the world that they make, one behind the other; and told longer, it answers the same; for 30 accesses of small worlds. No condition beyond the statement's own.
-/
import Derived.Test.YtjbhichgojjakaaPlyShown
import Derived.Test.YtjbhichgojjakaaPlyLeaf
import Derived.Test.YtjbhichgojjakaaPlyStep
import Derived.Test.YtjbhichgojjakaaAfter
import Derived.Test.YtjbhichgojjakaaAccSame
import Derived.Test.YtjbhichgojjakaaLaw
import Derived.Test.YtjbhichgojjakaaFields
import Derived.Deep.Cut
import Derived.Deep.CutRange
import Derived.Deep.RegionHeld3
namespace Go.Proofs.Ytjbhichgojjakaa.playSteps
open Go.ChangeShapes Go.WideShapes Go.ChangeAt Go.RowKit Go.Deep Go.BigFrame
set_option linter.unusedVariables false
theorem own : ownKnob Try.prog.godebug = none := by kernel_rfl

set_option maxRecDepth 100000 in
set_option maxHeartbeats 16000000 in
theorem walkA (L : Option Addr) (ln lc : Nat) (l : List Acc) (t c : Int) (A : Option Addr) (n k : Nat) (F : Nat → Nat) (r : Nat) (R : Option Addr) (m ra : Nat) (S : Option Addr) (m1 sa : Nat) (l0 l1 : List Stm) (me : Int) (fA : Option Addr) (fn fc : Nat) (ff : Nat → Bool) (hf : fewA l ln 30 = false) (w : World) (HA : Hid (AccsAt w L ln l)) (HW : Hid (AtW w A n F)) (HR0 : Hid (StmsAt w R m l0)) (HR1 : Hid (StmsAt w S m1 l1)) (HFL : Hid (AtBl w fA fn ff)) :
    Calls Try.prog 5 #[.agg #[.slice L ln lc, .int .i64 t, .int .i64 c, .slice A n k, .int .u64 (r : Int), .slice R m ra, .slice S m1 sa, .int .i64 me, .slice fA fn fc]] w fun e w' => e = .returned (.bool true) ∧ Below w.heap.size w w' := by
  have HF : ∀ w, Hid (AccsAt w L ln l) → Calls Try.prog 13 #[.slice L ln lc, .int .i64 30] w fun e w' => e = .returned (.bool (fewA l ln 30)) ∧ w = w' := fun w h => fewA_at L ln lc l 30 (by omega) w h
  rw [hf] at HF
  go_enter Try.func5, Try.ntmps5
  go_wp2_with fail
  (with_reducible refine (playShown _).mono ?_)
  rintro e w1 ⟨rfl, hb⟩
  have VW := Lib.hid ((VarAt.made1 w (.cells #[.slice L ln lc, .int .i64 t, .int .i64 c, .slice A n k, .int .u64 (r : Int), .slice R m ra, .slice S m1 sa, .int .i64 me, .slice fA fn fc] 59) #[.int .i64 t, .int .i64 c, .slice A n k, .int .u64 (r : Int), .slice R m ra, .slice S m1 sa] 35).below hb)
  have hbw : Below w.heap.size w w1 := (below_pair w (.cells #[.slice L ln lc, .int .i64 t, .int .i64 c, .slice A n k, .int .u64 (r : Int), .slice R m ra, .slice S m1 sa, .int .i64 me, .slice fA fn fc] 59) (.cells #[.int .i64 t, .int .i64 c, .slice A n k, .int .u64 (r : Int), .slice R m ra, .slice S m1 sa] 35)).trans (hb.mono (by simp <;> omega))
  have HAn := Lib.hid (HA.out.later hbw); clear HA; have HA := HAn; clear HAn
  have HWn := Lib.hid (HW.out.later hbw); clear HW; have HW := HWn; clear HWn
  have HR0n := Lib.hid (HR0.out.later hbw); clear HR0; have HR0 := HR0n; clear HR0n
  have HR1n := Lib.hid (HR1.out.later hbw); clear HR1; have HR1 := HR1n; clear HR1n
  have HFLn := Lib.hid (HFL.out.later hbw); clear HFL; have HFL := HFLn; clear HFLn
  have BB := Lib.hid hbw
  clear hb hbw
  obtain ⟨pw, hpw⟩ : ∃ p, w.heap.size + 1 = p := ⟨_, rfl⟩
  rw [hpw] at VW ⊢
  clear hpw
  obtain ⟨zw, ⟨c0, c1, c2, c3, c4, c5⟩, _⟩ := VW.out.six
  go_wp2_with (go_at_call 13; (with_reducible refine (HF _ HA).mono ?_); rintro e w2 ⟨rfl, rfl⟩)
  go_ret
  exact ⟨rfl, BB.out⟩

set_option maxRecDepth 100000 in
set_option maxHeartbeats 16000000 in
theorem walkB (L : Option Addr) (ln lc : Nat) (l : List Acc) (t c : Int) (A : Option Addr) (n k : Nat) (F : Nat → Nat) (r : Nat) (R : Option Addr) (m ra : Nat) (S : Option Addr) (m1 sa : Nat) (l0 l1 : List Stm) (me : Int) (fA : Option Addr) (fn fc : Nat) (ff : Nat → Bool) (hf : fewA l ln 30 = true) (hsm : smallB t c n l0 l1 me = false) (hnn : n ≤ 140737488355328) (w : World) (HA : Hid (AccsAt w L ln l)) (HW : Hid (AtW w A n F)) (HR0 : Hid (StmsAt w R m l0)) (HR1 : Hid (StmsAt w S m1 l1)) (HFL : Hid (AtBl w fA fn ff)) :
    Calls Try.prog 5 #[.agg #[.slice L ln lc, .int .i64 t, .int .i64 c, .slice A n k, .int .u64 (r : Int), .slice R m ra, .slice S m1 sa, .int .i64 me, .slice fA fn fc]] w fun e w' => e = .returned (.bool true) ∧ Below w.heap.size w w' := by
  have HF : ∀ w, Hid (AccsAt w L ln l) → Calls Try.prog 13 #[.slice L ln lc, .int .i64 30] w fun e w' => e = .returned (.bool (fewA l ln 30)) ∧ w = w' := fun w h => fewA_at L ln lc l 30 (by omega) w h
  rw [hf] at HF
  have HSM := fun w h h' => small_at t c A n k r R m ra S m1 sa l0 l1 me (by omega) w h h'
  rw [hsm] at HSM
  go_enter Try.func5, Try.ntmps5
  go_wp2_with fail
  (with_reducible refine (playShown _).mono ?_)
  rintro e w1 ⟨rfl, hb⟩
  have VW := Lib.hid ((VarAt.made1 w (.cells #[.slice L ln lc, .int .i64 t, .int .i64 c, .slice A n k, .int .u64 (r : Int), .slice R m ra, .slice S m1 sa, .int .i64 me, .slice fA fn fc] 59) #[.int .i64 t, .int .i64 c, .slice A n k, .int .u64 (r : Int), .slice R m ra, .slice S m1 sa] 35).below hb)
  have hbw : Below w.heap.size w w1 := (below_pair w (.cells #[.slice L ln lc, .int .i64 t, .int .i64 c, .slice A n k, .int .u64 (r : Int), .slice R m ra, .slice S m1 sa, .int .i64 me, .slice fA fn fc] 59) (.cells #[.int .i64 t, .int .i64 c, .slice A n k, .int .u64 (r : Int), .slice R m ra, .slice S m1 sa] 35)).trans (hb.mono (by simp <;> omega))
  have HAn := Lib.hid (HA.out.later hbw); clear HA; have HA := HAn; clear HAn
  have HWn := Lib.hid (HW.out.later hbw); clear HW; have HW := HWn; clear HWn
  have HR0n := Lib.hid (HR0.out.later hbw); clear HR0; have HR0 := HR0n; clear HR0n
  have HR1n := Lib.hid (HR1.out.later hbw); clear HR1; have HR1 := HR1n; clear HR1n
  have HFLn := Lib.hid (HFL.out.later hbw); clear HFL; have HFL := HFLn; clear HFLn
  have BB := Lib.hid hbw
  clear hb hbw
  obtain ⟨pw, hpw⟩ : ∃ p, w.heap.size + 1 = p := ⟨_, rfl⟩
  rw [hpw] at VW ⊢
  clear hpw
  obtain ⟨zw, ⟨c0, c1, c2, c3, c4, c5⟩, _⟩ := VW.out.six
  go_wp2_with (first | (go_at_call 13; (with_reducible refine (HF _ HA).mono ?_); rintro e w2 ⟨rfl, rfl⟩) | (go_at_call 18; (with_reducible refine (HSM _ HR0 HR1).mono ?_); rintro e w2 ⟨rfl, hb⟩; have BBn := Lib.hid (BB.out.trans (hb.mono BB.out.size)); clear BB; have BB := BBn; clear BBn; clear hb))
  go_ret
  exact ⟨rfl, BB.out⟩

theorem rawR_one {w : World} {r : Res} {B : Option Addr} {bc : Nat} (h : ResP w r B bc) : RawR w (resA r B bc) [r] := by
  refine ⟨rfl, fun j x hx => ?_⟩
  obtain rfl : j = 0 := by have := (List.getElem?_eq_some_iff.1 hx).1; simp at this; omega
  cases hx
  exact ⟨B, bc, h, fun i u hu => by rw [Nat.zero_mul, Nat.zero_add]; exact hu⟩

set_option maxRecDepth 100000 in
set_option maxHeartbeats 16000000 in
theorem walk (L : Option Addr) (ln lc : Nat) (l : List Acc) (t c : Int) (A : Option Addr) (n k : Nat) (F : Nat → Nat) (r : Nat) (R : Option Addr) (m ra : Nat) (S : Option Addr) (sa : Nat) (l0 l1 : List Stm) (me : Int) (fA : Option Addr) (fn fc : Nat) (ff : Nat → Bool) (hf : fewA l ln 30 = true) (hsm : smallB t c n l0 l1 me = true) (hn0 : 0 < n) (hn : n ≤ 600) (hm1 : 1 ≤ m) (hm8 : m ≤ 8) (hr : r < 18446744073709551616) (hgd : GoodD m l0 l1) (hx0 : ∀ x ∈ l0, x.bytes.length ≤ 4000) (hx1 : ∀ x ∈ l1, x.bytes.length ≤ 4000) (w : World) (HA : Hid (AccsAt w L ln l)) (HW : Hid (AtW w A n F)) (HR0 : Hid (StmsAt w R m l0)) (HR1 : Hid (StmsAt w S m l1)) (HFL : Hid (AtBl w fA fn ff)) :
    Calls Try.prog 5 #[.agg #[.slice L ln lc, .int .i64 t, .int .i64 c, .slice A n k, .int .u64 (r : Int), .slice R m ra, .slice S m sa, .int .i64 me, .slice fA fn fc]] w fun e w' => e = .returned (.bool true) ∧ Below w.heap.size w w' := by
  have HF : ∀ w, Hid (AccsAt w L ln l) → Calls Try.prog 13 #[.slice L ln lc, .int .i64 30] w fun e w' => e = .returned (.bool (fewA l ln 30)) ∧ w = w' := fun w h => fewA_at L ln lc l 30 (by omega) w h
  rw [hf] at HF
  have HSM := fun w h h' => small_at t c A n k r R m ra S m sa l0 l1 me (by omega) w h h'
  rw [hsm] at HSM
  have hmd : ∀ x ∈ l, x.d.length ≤ 100 := (few_mem hf).2.1
  have hmw : ∀ x ∈ l, x.m ≤ 100 := (few_mem hf).2.2
  have HLN := Lib.hid (few_mem hf).1
  have HMD := Lib.hid hmd
  have HMW := Lib.hid hmw
  have HG0 : Hid (WdGood m 0 r l0 l1) := Lib.hid ⟨hr, hgd, hx0, hx1⟩
  have HNN := Lib.hid (And.intro hn0 (And.intro hn (And.intro hm1 hm8)))
  clear hf hsm hmd hmw hn0 hn hm1 hm8 hr hgd hx0 hx1
  go_enter Try.func5, Try.ntmps5
  go_wp2_with fail
  (with_reducible refine (playShown _).mono ?_)
  rintro e w1 ⟨rfl, hb⟩
  have VW := Lib.hid ((VarAt.made1 w (.cells #[.slice L ln lc, .int .i64 t, .int .i64 c, .slice A n k, .int .u64 (r : Int), .slice R m ra, .slice S m sa, .int .i64 me, .slice fA fn fc] 59) #[.int .i64 t, .int .i64 c, .slice A n k, .int .u64 (r : Int), .slice R m ra, .slice S m sa] 35).below hb)
  have hbw : Below w.heap.size w w1 := (below_pair w (.cells #[.slice L ln lc, .int .i64 t, .int .i64 c, .slice A n k, .int .u64 (r : Int), .slice R m ra, .slice S m sa, .int .i64 me, .slice fA fn fc] 59) (.cells #[.int .i64 t, .int .i64 c, .slice A n k, .int .u64 (r : Int), .slice R m ra, .slice S m sa] 35)).trans (hb.mono (by simp <;> omega))
  have HAn := Lib.hid (HA.out.later hbw); clear HA; have HA := HAn; clear HAn
  have HWn := Lib.hid (HW.out.later hbw); clear HW; have HW := HWn; clear HWn
  have HR0n := Lib.hid (HR0.out.later hbw); clear HR0; have HR0 := HR0n; clear HR0n
  have HR1n := Lib.hid (HR1.out.later hbw); clear HR1; have HR1 := HR1n; clear HR1n
  have HFLn := Lib.hid (HFL.out.later hbw); clear HFL; have HFL := HFLn; clear HFLn
  have BB := Lib.hid hbw
  clear hb hbw
  obtain ⟨pw, hpw⟩ : ∃ p, w.heap.size + 1 = p := ⟨_, rfl⟩
  rw [hpw] at VW ⊢
  clear hpw
  obtain ⟨zw, ⟨c0, c1, c2, c3, c4, c5⟩, _⟩ := VW.out.six
  go_wp2_with (go_at_call 13; (with_reducible refine (HF _ HA).mono ?_); rintro e w2 ⟨rfl, rfl⟩)
  (with_reducible refine (HSM _ HR0 HR1).mono ?_)
  rintro e w2 ⟨rfl, hb⟩
  have HAn := Lib.hid (HA.out.later hb); clear HA; have HA := HAn; clear HAn
  have HWn := Lib.hid (HW.out.later hb); clear HW; have HW := HWn; clear HWn
  have HR0n := Lib.hid (HR0.out.later hb); clear HR0; have HR0 := HR0n; clear HR0n
  have HR1n := Lib.hid (HR1.out.later hb); clear HR1; have HR1 := HR1n; clear HR1n
  have HFLn := Lib.hid (HFL.out.later hb); clear HFL; have HFL := HFLn; clear HFLn
  have BBn := Lib.hid (BB.out.trans (hb.mono BB.out.size)); clear BB; have BB := BBn; clear BBn
  have VWn := Lib.hid (VW.out.below hb); clear VW; have VW := VWn; clear VWn
  clear hb c0 c1 c2 c3 c4 c5 zw HSM HF
  obtain ⟨zw, ⟨c0, c1, c2, c3, c4, c5⟩, _⟩ := VW.out.six
  have zw1 : pw < w2.heap.size + 1 := by omega
  go_upto_region 13 with fail
  have HZ : Hid (RunS w2 w2.heap.size (w2.heap.size + 1) (w2.heap.size + 1 + 1) t c n m (.slice none 0 0) 0 0 ((w2.alloc (.cells #[.int .i64 t, .int .i64 c, .slice A n k, .int .u64 (r : Int), .slice R m ra, .slice S m sa] 35)).alloc (.cells #[.int .i64 t, .int .i64 c, .slice A n k, .int .u64 (r : Int), .slice R m ra, .slice S m sa] 35))) := Lib.hid (by
    have hbp := below_pair w2 (.cells #[.int .i64 t, .int .i64 c, .slice A n k, .int .u64 (r : Int), .slice R m ra, .slice S m sa] 35) (.cells #[.int .i64 t, .int .i64 c, .slice A n k, .int .u64 (r : Int), .slice R m ra, .slice S m sa] 35)
    have nt : ∀ b, b < w2.heap.size → Nt w2.heap.size (w2.heap.size + 1) (.slice none 0 0) b := fun b hb => ⟨by omega, by omega, fun k hk => by cases hk⟩
    have o0 : OffW (Nt w2.heap.size (w2.heap.size + 1) (.slice none 0 0)) A n := HW.out.old.mono nt
    have o1 := (HR0.out.old.mono nt).later HR0.out hbp
    have o2 := (HR1.out.old.mono nt).later HR1.out hbp
    exact ⟨hbp, by simp, ⟨by omega, by omega, by omega, by omega, by omega⟩, ⟨r, F, l0, l1, HG0.out, ⟨A, k, R, ra, S, sa, WdAt.made w2 _ _ HW.out HR0.out HR1.out, o0, o1, o2⟩, ⟨A, k, R, ra, S, sa, ⟨VarAt.made1 w2 _ #[.int .i64 t, .int .i64 c, .slice A n k, .int .u64 (r : Int), .slice R m ra, .slice S m sa] 35, HW.out.later hbp, HR0.out.later hbp, HR1.out.later hbp⟩, o0, o1, o2⟩⟩, ⟨[], [], rfl, rfl, World.ownsRow_nil _ _ _ _, LogRaw.nil _ _⟩⟩)
  generalize (w2.alloc (.cells #[.int .i64 t, .int .i64 c, .slice A n k, .int .u64 (r : Int), .slice R m ra, .slice S m sa] 35)).alloc (.cells #[.int .i64 t, .int .i64 c, .slice A n k, .int .u64 (r : Int), .slice R m ra, .slice S m sa] 35) = z0 at HZ ⊢
  obtain ⟨gx, hgx⟩ : ∃ g, w2.heap.size = g := ⟨_, rfl⟩
  obtain ⟨gy, hgy⟩ : ∃ g, gx + 1 = g := ⟨_, rfl⟩
  obtain ⟨B0, hB0⟩ : ∃ g, gy + 1 = g := ⟨_, rfl⟩
  rw [hgx, hgy, hB0] at HZ
  rw [hgx, hgy]
  clear c0 c1 c2 c3 c4 c5 zw zw1 VW hgx hgy hB0
  go_loopw [10, 11, 12] (fun u10 u11 u12 wr => ∃ (j sv : Nat), j ≤ ln ∧ u12 = .int .i64 (j : Int) ∧ u11 = .int .u64 (sv : Int) ∧ RunS w2 gx gy B0 t c n m u10 j sv wr) (fun _ _ i _ => ln - (intOf i).toNat)
  case atStart => exact ⟨0, 0, Nat.zero_le _, rfl, rfl, HZ.out⟩
  case round =>
    obtain ⟨j, sv, hj, rfl, rfl, hrun⟩ := hrel
    have HR := Lib.hid hrun
    clear hrun
    by_cases hlt : j < ln
    · have i1 : (0 : Int) ≤ (j : Int) := by omega
      have i2 : (j : Int) < (ln : Int) := by omega
      have d1 : decide ((j : Int) < (ln : Int)) = true := by rw [decide_eq_true_iff]; omega
      have d1' : decide (j < ln) = true := by rw [decide_eq_true_iff]; omega
      have hln := HLN.out
      have HW2 := Lib.hid (HR.out.below)
      obtain ⟨x, hx⟩ : ∃ x, l[j]? = some x := ⟨_, List.getElem?_eq_getElem (show j < l.length by have := HA.out.1; omega)⟩
      obtain ⟨bl, ol, D, dc, E, ec, rfl, hbl, hcl, hxp⟩ := HA.out.at_ j x hx
      have HX := Lib.hid hx
      have hxd := HMD.out x (List.mem_of_getElem? hx)
      have hxm := HMW.out x (List.mem_of_getElem? hx)
      have XCL := Lib.hid hcl
      have XBL := Lib.hid hbl
      have XP0 := Lib.hid hxp
      clear hcl hbl hxp hx
      go_upto_region 15 with fail
      go_cut [13] from 54 to 63 (fun s13 wx => (∃ fb : Bool, s13 = .bool fb) ∧ wr = wx)
      case first =>
        by_cases hjf : j < fn
        · have d2 : decide ((j : Int) < (fn : Int)) = true := by rw [decide_eq_true_iff]; omega
          have d2' : decide (j < fn) = true := by rw [decide_eq_true_iff]; omega
          have i3 : (j : Int) < (fn : Int) := by omega
          obtain ⟨fb, fo, rfl, hfl, hfc⟩ := HFL.out.2 (by omega)
          have hf1 := (HW2.out.cell (p := ⟨fb, fo + j, none⟩) hfl).trans (hfc j hjf)
          clear hfc hfl
          go_wp2_with fail
          go_meet
          case rel => exact ⟨⟨_, rfl⟩, rfl⟩
        · have d2 : decide ((j : Int) < (fn : Int)) = false := by rw [decide_eq_false_iff_not]; omega
          have d2' : decide (j < fn) = false := by rw [decide_eq_false_iff_not]; omega
          go_wp2_with fail
          go_meet
          case rel => exact ⟨⟨_, rfl⟩, rfl⟩
      case rest =>
      obtain ⟨⟨fb, rfl⟩, rfl⟩ := hcut
      go_upto_region 16 with fail
      obtain ⟨rl, vs, hrl, hsum, hown, hraw⟩ := HR.out.log
      obtain ⟨la, cap, rfl, hcap, hlog, _⟩ := hraw.raw.at_ hown (by omega)
      have HOWN := Lib.hid hown
      have HRAW := Lib.hid hraw
      have HRL := Lib.hid hrl
      have HSUM := Lib.hid hsum
      have hgd : l.getD j Acc.zero = x := by rw [List.getD_eq_getElem?_getD, HX.out]; rfl
      have hline := line_no (some ⟨bl, ol, none⟩) ln lc l la j cap rl hlt hcap (fun y hy => Nat.le_trans (HMW.out y hy) (by omega)) wr (Lib.hid (HA.out.later HW2.out)) (Lib.hid hlog)
      rw [hgd] at hline
      clear hrl hsum hown hraw hcap hlog hgd
      go_wp2_with fail
      (with_reducible refine hline.mono ?_)
      clear hline
      rintro e w3 ⟨D3, dc3, E3, ec3, rfl, hX3, hb3, _, _⟩
      go_upto_region 17 with fail
      have hbx3 : Below w3.heap.size w3 ((w3.alloc (.cells #[.int .i64 x.k, .int .i64 x.c, .int .u64 (x.a : Int), .int .u64 (x.b : Int), .slice D3 x.d.length dc3, .slice E3 x.m ec3] 43)).alloc (.cells #[.int .i64 0, .bool false, .int .i64 0, .int .u64 0, .slice none 0 0] 52)) := below_pair _ _ _
      have V3 := Lib.hid ((VarAt.made w3 #[.int .i64 x.k, .int .i64 x.c, .int .u64 (x.a : Int), .int .u64 (x.b : Int), .slice D3 x.d.length dc3, .slice E3 x.m ec3] 43).below (al_below _ (.cells #[.int .i64 0, .bool false, .int .i64 0, .int .u64 0, .slice none 0 0] 52)))
      have P3 := Lib.hid (hX3.later hbx3)
      have BX := Lib.hid (hb3.trans (hbx3.mono hb3.size))
      generalize (w3.alloc (.cells #[.int .i64 x.k, .int .i64 x.c, .int .u64 (x.a : Int), .int .u64 (x.b : Int), .slice D3 x.d.length dc3, .slice E3 x.m ec3] 43)).alloc (.cells #[.int .i64 0, .bool false, .int .i64 0, .int .u64 0, .slice none 0 0] 52) = x3 at hbx3 V3 P3 BX ⊢
      generalize w3.heap.size = b14 at V3 ⊢
      clear hbx3 hX3 hb3
      obtain ⟨_, ⟨a0, a1, a2, a3, a4, a5⟩, _⟩ := V3.out.six
      obtain ⟨e0, e1, e2, e3, e4, e5⟩ := XCL.out.below (HW2.out.trans (BX.out.mono HW2.out.size)) XBL.out
      have rA0 : ∀ u : After x3, u.w.cell? ⟨b14, 0, none⟩ = some (.int .i64 x.k) := After.cells a0 rfl
      have rA1 : ∀ u : After x3, u.w.cell? ⟨b14, 1, none⟩ = some (.int .i64 x.c) := After.cells a1 rfl
      have rA2 : ∀ u : After x3, u.w.cell? ⟨b14, 2, none⟩ = some (.int .u64 (x.a : Int)) := After.cells a2 rfl
      have rA3 : ∀ u : After x3, u.w.cell? ⟨b14, 3, none⟩ = some (.int .u64 (x.b : Int)) := After.cells a3 rfl
      have rA4 : ∀ u : After x3, u.w.cell? ⟨b14, 4, none⟩ = some (.slice D3 x.d.length dc3) := After.cells a4 rfl
      have rA5 : ∀ u : After x3, u.w.cell? ⟨b14, 5, none⟩ = some (.slice E3 x.m ec3) := After.cells a5 rfl
      have rE0 : ∀ u : After x3, u.w.cell? ⟨bl, ol + j * 6, none⟩ = some (.int .i64 x.k) := After.cells e0 rfl
      have rE1 : ∀ u : After x3, u.w.cell? ⟨bl, ol + j * 6 + 1, none⟩ = some (.int .i64 x.c) := After.cells e1 rfl
      have rE2 : ∀ u : After x3, u.w.cell? ⟨bl, ol + j * 6 + 2, none⟩ = some (.int .u64 (x.a : Int)) := After.cells e2 rfl
      have rE3 : ∀ u : After x3, u.w.cell? ⟨bl, ol + j * 6 + 3, none⟩ = some (.int .u64 (x.b : Int)) := After.cells e3 rfl
      have rE4 : ∀ u : After x3, u.w.cell? ⟨bl, ol + j * 6 + 4, none⟩ = some (.slice D x.d.length dc) := After.cells e4 rfl
      have rE5 : ∀ u : After x3, u.w.cell? ⟨bl, ol + j * 6 + 5, none⟩ = some (.slice E x.m ec) := After.cells e5 rfl
      have HAK : ∀ u : After x3, Calls Try.prog 16 #[.agg #[.int .i64 x.k, .int .i64 x.c, .int .u64 (x.a : Int), .int .u64 (x.b : Int), .slice D3 x.d.length dc3, .slice E3 x.m ec3], .agg #[.int .i64 x.k, .int .i64 x.c, .int .u64 (x.a : Int), .int .u64 (x.b : Int), .slice D x.d.length dc, .slice E x.m ec]] u.w (Kept u.w (.bool true)) := fun u => asks_same x D3 dc3 E3 ec3 D dc E ec u.w (Lib.hid (P3.out.later u.below)) (Lib.hid (XP0.out.later ((HW2.out.trans (BX.out.mono HW2.out.size)).trans (u.below.mono (Nat.le_trans HW2.out.size BX.out.size)))))
      clear a0 a1 a2 a3 a4 a5 e0 e1 e2 e3 e4 e5
      refine wp_region_after _ (by kernel_rfl) (by kernel_rfl) rfl (by kernel_rfl) ?_
      repeat (go_big_quiet_step ((first | (go_at_call 16; with_reducible exact after_kept (HAK _)))))
      refine wpQuiet_nil ?_
      intro w4 hw4
      obtain ⟨u4, hu4⟩ := hw4
      subst hu4
      have V3n := Lib.hid (V3.out.below u4.below); clear V3; have V3 := V3n; clear V3n
      have P3n := Lib.hid (P3.out.later u4.below); clear P3; have P3 := P3n; clear P3n
      have BXn := Lib.hid (BX.out.trans (u4.below.mono BX.out.size)); clear BX; have BX := BXn; clear BXn
      clear rA0 rA1 rA2 rA3 rA4 rA5 rE0 rE1 rE2 rE3 rE4 rE5 HAK
      generalize u4.w = x4 at V3 P3 BX ⊢
      clear u4
      go_upto_region 19 with fail
      obtain ⟨r1, G1, P0, P1, hgd, hwx, hwy⟩ := HR.out.run
      obtain ⟨Ax, kx, Rx, rax, Sx, sax, hWx, ox0, ox1, ox2⟩ := hwx
      obtain ⟨Ay, ky, Ry, ray, Sy, say, hWy, oy0, oy1, oy2⟩ := hwy
      have hlen : ∀ q : List Stm, (∀ y ∈ q, y.bytes.length ≤ 4000 + 100 * j) → ∀ y ∈ q, y.bytes.length ≤ 100000 := fun q h y hy => by have := h y hy; omega
      obtain ⟨r2, G2, Q0, Q1, N, xs, fl, hdg, hgr, HD1, HD2⟩ := doBothU t c n G1 r1 m P0 P1 me x.k x.c x.a x.b x.d.length x.d x.m x.f fb hgd.root (by have := HNN.out.2.1; omega) HNN.out.1 hWx.2.1.1 XP0.out.a XP0.out.b HNN.out.2.2.1 HNN.out.2.2.2 hgd.good (hlen P0 hgd.l0) (hlen P1 hgd.l1) (by omega) rfl
      have hgood' : WdGood m (j + 1) r2 Q0 Q1 := by
        obtain ⟨g0, g1⟩ := hgr.grow (4000 + 100 * j) hgd.l0 hgd.l1
        exact ⟨hgr.root, hdg.good, fun y hy => by have := g0 y hy; omega, fun y hy => by have := g1 y hy; omega⟩
      have HGOOD := Lib.hid hgood'
      have HNB := Lib.hid hgr.told
      have HXB : Hid (xs.length ≤ 4000 + 100 * j) := Lib.hid (hgr.read (4000 + 100 * j) hgd.l0 hgd.l1)
      have HDX := HD2 Ax kx Rx Sx rax sax D3 dc3 E3 ec3
      have HDY := HD1 Ay ky Ry Sy ray say D dc E ec
      unfold DoCalls at HDX HDY
      clear hlen hgr hdg hgood' HD1 HD2 hgd
      have WX := Lib.hid (hWx.later BX.out)
      have WY := Lib.hid (hWy.later BX.out)
      have OX := Lib.hid (And.intro ox0 (And.intro (ox1.later hWx.2.2.1 BX.out) (ox2.later hWx.2.2.2 BX.out)))
      have OY := Lib.hid (And.intro oy0 (And.intro (oy1.later hWy.2.2.1 BX.out) (oy2.later hWy.2.2.2 BX.out)))
      clear hWx hWy ox0 ox1 ox2 oy0 oy1 oy2
      have HOWNn := Lib.hid (ownsRow_laterR HOWN.out BX.out); clear HOWN; have HOWN := HOWNn; clear HOWNn
      have HRAWn := Lib.hid (HRAW.out.later BX.out); clear HRAW; have HRAW := HRAWn; clear HRAWn
      have hB0 := HR.out.lt
      have hsz := HR.out.size
      have hsz4 := BX.out.size
      obtain ⟨c0, c1, c2, c3, c4, c5⟩ := WX.out.cells
      obtain ⟨_, ⟨a0, a1, a2, a3, a4, a5⟩, _⟩ := V3.out.six
      go_wp2_with fail
      clear c0 c1 c2 c3 c4 c5 a0 a1 a2 a3 a4 a5
      (with_reducible refine (HDX _ WX.out.gA WX.out.g0 WX.out.g1 (Lib.hid P3.out.d) (Lib.hid P3.out.f)).mono ?_)
      clear HDX
      rintro e w5 ⟨A5, k5, R5, ra5, S5, sa5, X5, kx5, rfl, ha, hs0, hs1, hk, hxb, hb, hP⟩
      have HQ5 := Lib.hid (step_fact (Below.refl _ _) hb hP WX.out.2.1 WX.out.2.2.1 WX.out.2.2.2 OX.out.1 OX.out.2.1 OX.out.2.2 WX.out.1.1 WY.out.1.1 (fun k hk => (HOWN.out.lt k hk).2))
      go_upto_region 20 with fail
      have hbx5 : Below w5.heap.size w5 ((w5.alloc (.cells #[.int .i64 t, .int .i64 c, .slice A5 n k5, .int .u64 (r2 : Int), .slice R5 m ra5, .slice S5 m sa5] 35)).alloc (.cells #[.int .u64 (N : Int), .slice X5 xs.length kx5, .bool fl] 39)) := below_pair _ _ _
      have W5 := Lib.hid (WdAt.made (t := t) (c := c) (k := k5) (r := r2) (ra := ra5) (sa := sa5) w5 (.cells #[.int .u64 (N : Int), .slice X5 xs.length kx5, .bool fl] 39) 35 ha hs0 hs1)
      have V5 := Lib.hid (VarAt.made1 w5 (.cells #[.int .i64 t, .int .i64 c, .slice A5 n k5, .int .u64 (r2 : Int), .slice R5 m ra5, .slice S5 m sa5] 35) #[.int .u64 (N : Int), .slice X5 xs.length kx5, .bool fl] 39)
      have R5P : Hid (ResP w5 ⟨N, xs, fl⟩ X5 kx5) := Lib.hid ⟨HNB.out, ⟨hk, by have := HXB.out; have hbj : xs.length ≤ 140737488355328 := (by omega); exact hbj⟩, hxb⟩
      have hbn5 := hb.trans (hbx5.mono hb.size)
      have OS5 := Lib.hid hs0
      have OT5 := Lib.hid hs1
      generalize (w5.alloc (.cells #[.int .i64 t, .int .i64 c, .slice A5 n k5, .int .u64 (r2 : Int), .slice R5 m ra5, .slice S5 m sa5] 35)).alloc (.cells #[.int .u64 (N : Int), .slice X5 xs.length kx5, .bool fl] 39) = x5 at hbx5 W5 V5 hbn5 ⊢
      have R5Pn := Lib.hid (R5P.out.later hbx5); clear R5P; have R5P := R5Pn; clear R5Pn
      have O5 : Hid (OffW (Nt gx gy (.slice la j cap)) A5 n ∧ OffS (Nt gx gy (.slice la j cap)) x5 R5 m ∧ OffS (Nt gx gy (.slice la j cap)) x5 S5 m ∧ OffW (Nt gx gy (.slice la j cap)) X5 xs.length) := Lib.hid (by
        obtain ⟨N2, _, _, _, q0, q1, q2, q3⟩ := HQ5.out
        exact ⟨q0.mono fun b h => h.1, (q1.mono fun b h => h.1).later OS5.out hbx5, (q2.mono fun b h => h.1).later OT5.out hbx5, q3.mono fun b h => h.1⟩)
      have O5s : Hid (StmsAt x5 R5 m Q0 ∧ StmsAt x5 S5 m Q1) := Lib.hid ⟨W5.out.2.2.1, W5.out.2.2.2⟩
      have h5s : x4.heap.size ≤ w5.heap.size := hb.size
      have h5x : w5.heap.size + 1 < x5.heap.size := V5.out.1
      clear ha hs0 hs1 hk hxb hb hP HQ5 hbx5 OS5 OT5
      generalize w5.heap.size = b17 at W5 V5 h5s h5x ⊢
      have WXn := Lib.hid (WX.out.later hbn5); clear WX; have WX := WXn; clear WXn
      have OYn := Lib.hid (And.intro OY.out.1 (And.intro (OY.out.2.1.later WY.out.2.2.1 hbn5) (OY.out.2.2.later WY.out.2.2.2 hbn5))); clear OY; have OY := OYn; clear OYn
      have WYn := Lib.hid (WY.out.later hbn5); clear WY; have WY := WYn; clear WYn
      have HOWNn := Lib.hid (ownsRow_laterR HOWN.out hbn5); clear HOWN; have HOWN := HOWNn; clear HOWNn
      have HRAWn := Lib.hid (HRAW.out.later hbn5); clear HRAW; have HRAW := HRAWn; clear HRAWn
      have BXn := Lib.hid (BX.out.trans (hbn5.mono BX.out.size)); clear BX; have BX := BXn; clear BXn
      have XP5 := Lib.hid (XP0.out.later (HW2.out.trans (BX.out.mono HW2.out.size)))
      clear hbn5 OX V3 P3
      have HGX : Hid (gx < x5.heap.size) := Lib.hid WX.out.1.1
      have HGY : Hid (gy < x5.heap.size) := Lib.hid WY.out.1.1
      have HVB : Hid (∀ k, (Value.slice la j cap).ownBlock = some k → k < x5.heap.size) := Lib.hid (fun k hk => (HOWN.out.lt k hk).2)
      have hB5 : Below x5.heap.size x5 x5 := Below.refl _ _
      have XC5 := Lib.hid (XCL.out.below (HW2.out.trans (BX.out.mono HW2.out.size)) XBL.out)
      have XB5 : Hid (bl < x5.heap.size) := Lib.hid (Nat.lt_of_lt_of_le XBL.out (Nat.le_trans HW2.out.size BX.out.size))
      have rC0 : ∀ w', Below x5.heap.size x5 w' → w'.cell? ⟨gy, 0, none⟩ = some (.int .i64 t) := fun w' hb => (WY.out.later hb).cells.1
      have rC1 : ∀ w', Below x5.heap.size x5 w' → w'.cell? ⟨gy, 1, none⟩ = some (.int .i64 c) := fun w' hb => (WY.out.later hb).cells.2.1
      have rC2 : ∀ w', Below x5.heap.size x5 w' → w'.cell? ⟨gy, 2, none⟩ = some (.slice Ay n ky) := fun w' hb => (WY.out.later hb).cells.2.2.1
      have rC3 : ∀ w', Below x5.heap.size x5 w' → w'.cell? ⟨gy, 3, none⟩ = some (.int .u64 (r1 : Int)) := fun w' hb => (WY.out.later hb).cells.2.2.2.1
      have rC4 : ∀ w', Below x5.heap.size x5 w' → w'.cell? ⟨gy, 4, none⟩ = some (.slice Ry m ray) := fun w' hb => (WY.out.later hb).cells.2.2.2.2.1
      have rC5 : ∀ w', Below x5.heap.size x5 w' → w'.cell? ⟨gy, 5, none⟩ = some (.slice Sy m say) := fun w' hb => (WY.out.later hb).cells.2.2.2.2.2
      have rE0 : ∀ w', Below x5.heap.size x5 w' → w'.cell? ⟨bl, ol + j * 6, none⟩ = some (.int .i64 x.k) := fun w' hb => (XC5.out.below hb XB5.out).1
      have rE1 : ∀ w', Below x5.heap.size x5 w' → w'.cell? ⟨bl, ol + j * 6 + 1, none⟩ = some (.int .i64 x.c) := fun w' hb => (XC5.out.below hb XB5.out).2.1
      have rE2 : ∀ w', Below x5.heap.size x5 w' → w'.cell? ⟨bl, ol + j * 6 + 2, none⟩ = some (.int .u64 (x.a : Int)) := fun w' hb => (XC5.out.below hb XB5.out).2.2.1
      have rE3 : ∀ w', Below x5.heap.size x5 w' → w'.cell? ⟨bl, ol + j * 6 + 3, none⟩ = some (.int .u64 (x.b : Int)) := fun w' hb => (XC5.out.below hb XB5.out).2.2.2.1
      have rE4 : ∀ w', Below x5.heap.size x5 w' → w'.cell? ⟨bl, ol + j * 6 + 4, none⟩ = some (.slice D x.d.length dc) := fun w' hb => (XC5.out.below hb XB5.out).2.2.2.2.1
      have rE5 : ∀ w', Below x5.heap.size x5 w' → w'.cell? ⟨bl, ol + j * 6 + 5, none⟩ = some (.slice E x.m ec) := fun w' hb => (XC5.out.below hb XB5.out).2.2.2.2.2
      go_cut [19, 20] from 89 to 100 (fun s9 s10 wx => StepEnd x5 gx gy (.slice la j cap) t c n r2 m G2 Q0 Q1 N xs fl s9 s10 wx)
      case first =>
        go_region_held3 (fun w' => Below x5.heap.size x5 w') (repeat (first | with_reducible assumption | with_reducible refine Below.drew ?_ | with_reducible refine below_al ?_ | (with_reducible refine below_set1 (by omega) _ ?_)))
          (first | (go_at_call 10; (with_reducible refine (HDY _ (WY.out.later (by repeat (first | with_reducible assumption | with_reducible refine Below.drew ?_ | with_reducible refine below_al ?_))).gA (WY.out.later (by repeat (first | with_reducible assumption | with_reducible refine Below.drew ?_ | with_reducible refine below_al ?_))).g0 (WY.out.later (by repeat (first | with_reducible assumption | with_reducible refine Below.drew ?_ | with_reducible refine below_al ?_))).g1 (Lib.hid (XP5.out.later (by repeat (first | with_reducible assumption | with_reducible refine Below.drew ?_ | with_reducible refine below_al ?_))).d) (Lib.hid (XP5.out.later (by repeat (first | with_reducible assumption | with_reducible refine Below.drew ?_ | with_reducible refine below_al ?_))).f)).mono ?_); rintro e w6 ⟨A6, ka6, R6, ra6, S6, sa6, X6, kx6, rfl, ha, hs0, hs1, hk, hxb, hb, hP⟩; have hBw6 : Below x5.heap.size x5 w6 := below_step hb (by repeat (first | with_reducible assumption | with_reducible refine Below.drew ?_ | with_reducible refine below_al ?_)); have hz6 := hBw6.size; have HA6 := Lib.hid ha; have HS6 := Lib.hid hs0; have HT6 := Lib.hid hs1; have HQ := Lib.hid (step_fact (by repeat (first | with_reducible assumption | with_reducible refine Below.drew ?_ | with_reducible refine below_al ?_)) hb hP WY.out.2.1 WY.out.2.2.1 WY.out.2.2.2 OY.out.1 OY.out.2.1 OY.out.2.2 HGX.out HGY.out HVB.out); (try (have VBa : VarAt w6 x5.heap.size [.int .i64 0, .int .i64 0, .slice none 0 0, .int .u64 0, .slice none 0 0, .slice none 0 0] := VarAt.onto hb (VarAt.made x5 #[.int .i64 0, .int .i64 0, .slice none 0 0, .int .u64 0, .slice none 0 0, .slice none 0 0] 35) rfl; obtain ⟨_, ⟨va0, va1, va2, va3, va4, va5⟩, wa0, wa1, wa2, wa3, wa4, wa5⟩ := VBa.six)); (try (have VBb : VarAt w6 x5.heap.size [.int .u64 0, .slice none 0 0, .bool false] := VarAt.onto hb (VarAt.made x5 #[.int .u64 0, .slice none 0 0, .bool false] 39) rfl; obtain ⟨_, vb0, vb1, vb2, wb0, wb1, wb2⟩ := VBb.three)); (try (have VBc : VarAt w6 (x5.heap.size + 1) [.int .u64 0, .slice none 0 0, .bool false] := VarAt.onto hb (VarAt.made1 x5 (.cells #[.int .i64 0, .int .i64 0, .slice none 0 0, .int .u64 0, .slice none 0 0, .slice none 0 0] 35) #[.int .u64 0, .slice none 0 0, .bool false] 39) rfl; obtain ⟨_, vc0, vc1, vc2, wc0, wc1, wc2⟩ := VBc.three)); (try (have VBd : VarAt w6 (x5.heap.size + 1) [.int .i64 0, .int .i64 0, .slice none 0 0, .int .u64 0, .slice none 0 0, .slice none 0 0] := VarAt.onto hb (VarAt.made1 x5 (.cells #[.int .u64 0, .slice none 0 0, .bool false] 39) #[.int .i64 0, .int .i64 0, .slice none 0 0, .int .u64 0, .slice none 0 0, .slice none 0 0] 35) rfl; obtain ⟨_, ⟨vd0, vd1, vd2, vd3, vd4, vd5⟩, wd0, wd1, wd2, wd3, wd4, wd5⟩ := VBd.six)); (try (have VBe : VarAt w6 x5.heap.size [.int .i64 0, .int .i64 0, .slice none 0 0, .int .u64 0, .slice none 0 0, .slice none 0 0] := VarAt.onto hb ((VarAt.made x5 #[.int .i64 0, .int .i64 0, .slice none 0 0, .int .u64 0, .slice none 0 0, .slice none 0 0] 35).below (al_below _ (.cells #[.int .u64 0, .slice none 0 0, .bool false] 39))) rfl; obtain ⟨_, ⟨ve0, ve1, ve2, ve3, ve4, ve5⟩, we0, we1, we2, we3, we4, we5⟩ := VBe.six)); (try (have VBf : VarAt w6 x5.heap.size [.int .u64 0, .slice none 0 0, .bool false] := VarAt.onto hb ((VarAt.made x5 #[.int .u64 0, .slice none 0 0, .bool false] 39).below (al_below _ (.cells #[.int .i64 0, .int .i64 0, .slice none 0 0, .int .u64 0, .slice none 0 0, .slice none 0 0] 35))) rfl; obtain ⟨_, vf0, vf1, vf2, wf0, wf1, wf2⟩ := VBf.three)); clear ha hs0 hs1 hk hxb hb hP))
        all_goals
          go_wp2_with fail
          go_meet
          obtain ⟨N2, hN2, hN3, hN4, q0, q1, q2, q3⟩ := HQ.out
          simp at hN2
          exact StepEnd.of (N2 := N2) (w4 := w6) (ka := ka6) (ra := ra6) (sa := sa6) (X := X6) (kx := kx6) (by repeat (first | with_reducible exact Keep.refl _ _ | with_reducible refine Keep.drew ?_ | with_reducible refine Keep.alloc ?_ _ | (with_reducible refine Keep.set ?_ _ _ _ (by unfold Qs; omega)))) (by omega) (by omega) (VarAt.of6 (by first | (simp; done) | (simp; omega) | omega) (by go_simp) (by go_simp) (by go_simp) (by go_simp) (by go_simp) (by go_simp) (by go_simp) (by go_simp) (by go_simp) (by go_simp) (by go_simp) (by go_simp)) (VarAt.of3 (by first | (simp; done) | (simp; omega) | omega) (by go_simp) (by go_simp) (by go_simp) (by go_simp) (by go_simp) (by go_simp)) HA6.out HS6.out HT6.out q0 q1 q2 (by repeat (first | with_reducible assumption | with_reducible refine Below.drew ?_ | with_reducible refine below_al ?_ | (with_reducible refine below_set1 (by omega) _ ?_)))
      case rest =>
      obtain ⟨b19, b20, A6, ka6, R6, ra6, S6, sa6, X6, kx6, rfl, rfl, hn9, hn10, hv9, hv10, hA6, hS6, hT6, q0, q1, q2, hby⟩ := hcut
      have hgx := HGX.out
      have hgy := HGY.out
      have n1 : ¬ (b19 = gx) := by omega
      have n2 : ¬ (b19 = gy) := by omega
      have n3 : ¬ (b20 = gx) := by omega
      have n4 : ¬ (b20 = gy) := by omega
      have n5 : ¬ (b17 = gx) := by omega
      have n6 : ¬ (b17 = gy) := by omega
      have n7 : ¬ (b17 + 1 = gx) := by omega
      have n8 : ¬ (b17 + 1 = gy) := by omega
      have n9 : ¬ (gx = gy) := hB0.2.2.2.2
      have n10 : ¬ (gy = gx) := fun e => n9 e.symm
      have n11 : ¬ (gx = b19) := fun e => n1 e.symm
      have n12 : ¬ (gy = b19) := fun e => n2 e.symm
      have n13 : ¬ (gx = b20) := fun e => n3 e.symm
      have n14 : ¬ (gy = b20) := fun e => n4 e.symm
      have n15 : ¬ (gx = b17) := fun e => n5 e.symm
      have n16 : ¬ (gy = b17) := fun e => n6 e.symm
      have W5n := Lib.hid (W5.out.later hby); clear W5; have W5 := W5n; clear W5n
      have V5n := Lib.hid (V5.out.below hby); clear V5; have V5 := V5n; clear V5n
      have R5Pn := Lib.hid (R5P.out.later hby); clear R5P; have R5P := R5Pn; clear R5Pn
      have WX6 := Lib.hid (WX.out.1.below hby)
      have WY6 := Lib.hid (WY.out.1.below hby)
      have HOWNn := Lib.hid (ownsRow_laterR HOWN.out hby); clear HOWN; have HOWN := HOWNn; clear HOWNn
      have HRAWn := Lib.hid (HRAW.out.later hby); clear HRAW; have HRAW := HRAWn; clear HRAWn
      have BXn := Lib.hid (BX.out.trans (hby.mono BX.out.size)); clear BX; have BX := BXn; clear BXn
      have O5n : Hid (OffW (Nt gx gy (.slice la j cap)) A5 n ∧ OffS (Nt gx gy (.slice la j cap)) wc R5 m ∧ OffS (Nt gx gy (.slice la j cap)) wc S5 m ∧ OffW (Nt gx gy (.slice la j cap)) X5 xs.length) := Lib.hid ⟨O5.out.1, O5.out.2.1.later O5s.out.1 hby, O5.out.2.2.1.later O5s.out.2 hby, O5.out.2.2.2⟩
      clear O5; have O5 := O5n; clear O5n
      have HM6 := Lib.hid (And.intro hA6 (And.intro hS6 (And.intro hT6 (And.intro q0 (And.intro q1 q2)))))
      obtain ⟨_, ⟨c0, c1, c2, c3, c4, c5⟩, _⟩ := W5.out.1.six
      obtain ⟨_, ⟨d0, d1, d2, d3, d4, d5⟩, _⟩ := hv9.six
      obtain ⟨_, f0, f1, f2, _⟩ := hv10.three
      obtain ⟨_, g0, g1, g2, _⟩ := V5.out.three
      obtain ⟨zx, ⟨x0, x1, x2, x3', x4', x5'⟩, y0, y1, y2, y3, y4, y5⟩ := WX6.out.six
      obtain ⟨zy, ⟨u0, u1, u2, u3, u4, u5⟩, s0, s1, s2, s3, s4, s5⟩ := WY6.out.six
      have hs : IntKind.u64.wrap ((sv : Int) + (N : Int)) = (((sv + N) % 18446744073709551616 : Nat) : Int) := by rw [IntKind.wrap_u64]; omega
      obtain ⟨s', hs'⟩ : ∃ s', (sv + N) % 18446744073709551616 = s' := ⟨_, rfl⟩
      rw [hs'] at hs
      have HS' := Lib.hid hs'
      clear hv9 hv10 hA6 hS6 hT6 q0 q1 q2 hs' rC0 rC1 rC2 rC3 rC4 rC5 rE0 rE1 rE2 rE3 rE4 rE5
      go_upto_region 24 with fail
      have hwc : Below wr.heap.size wr wc := BX.out
      have hyc : Below w2.heap.size w2 wc := HW2.out.trans (hwc.mono HW2.out.size)
      have hwr := HW2.out.size
      have hrow : ∀ k, (Value.slice la j cap).ownBlock = some k → B0 ≤ k := fun k hk => (HOWN.out.lt k hk).1
      refine gen_w (P := fun W => Code.wp _ _ _ _ W) (fun z => RunZ w2 gx gy B0 t c n m (.slice la j cap) j rl vs X5 kx5 N xs fl z ∧ VarAt z (b17 + 1) [.int .u64 (N : Int), .slice X5 xs.length kx5, .bool fl]) ⟨⟨(by repeat (first | with_reducible exact hyc | with_reducible refine Below.drew ?_ | with_reducible refine below_al ?_ | (with_reducible refine below_set1 (by omega) _ ?_))), by simp; omega, hB0, ⟨r2, G2, Q0, Q1, HGOOD.out, ⟨A5, k5, R5, ra5, S5, sa5, ⟨VarAt.of6 (by simp; omega) (by go_simp) (by go_simp) (by go_simp) (by go_simp) (by go_simp) (by go_simp) (by go_simp) (by go_simp) (by go_simp) (by go_simp) (by go_simp) (by go_simp), W5.out.2.1.keep (by repeat (first | with_reducible exact Keep.refl _ _ | with_reducible refine Keep.drew ?_ | with_reducible refine Keep.alloc ?_ _ | (with_reducible refine Keep.set ?_ _ _ _ (by unfold Nt; omega)))) O5.out.1, W5.out.2.2.1.keep (by repeat (first | with_reducible exact Keep.refl _ _ | with_reducible refine Keep.drew ?_ | with_reducible refine Keep.alloc ?_ _ | (with_reducible refine Keep.set ?_ _ _ _ (by unfold Nt; omega)))) O5.out.2.1, W5.out.2.2.2.keep (by repeat (first | with_reducible exact Keep.refl _ _ | with_reducible refine Keep.drew ?_ | with_reducible refine Keep.alloc ?_ _ | (with_reducible refine Keep.set ?_ _ _ _ (by unfold Nt; omega)))) O5.out.2.2.1⟩, O5.out.1, O5.out.2.1.keep W5.out.2.2.1 (by repeat (first | with_reducible exact Keep.refl _ _ | with_reducible refine Keep.drew ?_ | with_reducible refine Keep.alloc ?_ _ | (with_reducible refine Keep.set ?_ _ _ _ (by unfold Nt; omega)))) O5.out.2.1, O5.out.2.2.1.keep W5.out.2.2.2 (by repeat (first | with_reducible exact Keep.refl _ _ | with_reducible refine Keep.drew ?_ | with_reducible refine Keep.alloc ?_ _ | (with_reducible refine Keep.set ?_ _ _ _ (by unfold Nt; omega)))) O5.out.2.2.1⟩, ⟨A6, ka6, R6, ra6, S6, sa6, ⟨VarAt.of6 (by simp; omega) (by go_simp) (by go_simp) (by go_simp) (by go_simp) (by go_simp) (by go_simp) (by go_simp) (by go_simp) (by go_simp) (by go_simp) (by go_simp) (by go_simp), HM6.out.1.keep (by repeat (first | with_reducible exact Keep.refl _ _ | with_reducible refine Keep.drew ?_ | with_reducible refine Keep.alloc ?_ _ | (with_reducible refine Keep.set ?_ _ _ _ (by unfold Nt; omega)))) HM6.out.2.2.2.1, HM6.out.2.1.keep (by repeat (first | with_reducible exact Keep.refl _ _ | with_reducible refine Keep.drew ?_ | with_reducible refine Keep.alloc ?_ _ | (with_reducible refine Keep.set ?_ _ _ _ (by unfold Nt; omega)))) HM6.out.2.2.2.2.1, HM6.out.2.2.1.keep (by repeat (first | with_reducible exact Keep.refl _ _ | with_reducible refine Keep.drew ?_ | with_reducible refine Keep.alloc ?_ _ | (with_reducible refine Keep.set ?_ _ _ _ (by unfold Nt; omega)))) HM6.out.2.2.2.2.2⟩, HM6.out.2.2.2.1, HM6.out.2.2.2.2.1.keep HM6.out.2.1 (by repeat (first | with_reducible exact Keep.refl _ _ | with_reducible refine Keep.drew ?_ | with_reducible refine Keep.alloc ?_ _ | (with_reducible refine Keep.set ?_ _ _ _ (by unfold Nt; omega)))) HM6.out.2.2.2.2.1, HM6.out.2.2.2.2.2.keep HM6.out.2.2.1 (by repeat (first | with_reducible exact Keep.refl _ _ | with_reducible refine Keep.drew ?_ | with_reducible refine Keep.alloc ?_ _ | (with_reducible refine Keep.set ?_ _ _ _ (by unfold Nt; omega)))) HM6.out.2.2.2.2.2⟩⟩, HRL.out, (by repeat (first | with_reducible exact HOWN.out | (with_reducible refine ownsRow_apart ?_ _ _ _ (by omega)))), HRAW.out.keep (by repeat (first | with_reducible exact Keep.refl _ _ | with_reducible refine Keep.drew ?_ | with_reducible refine Keep.alloc ?_ _ | (with_reducible refine Keep.set ?_ _ _ _ (by unfold Nt; omega)))), ⟨R5P.out.n, R5P.out.bl, R5P.out.b.keep (by repeat (first | with_reducible exact Keep.refl _ _ | with_reducible refine Keep.drew ?_ | with_reducible refine Keep.alloc ?_ _ | (with_reducible refine Keep.set ?_ _ _ _ (by unfold Nt; omega)))) O5.out.2.2.2⟩, O5.out.2.2.2⟩, (by repeat (first | with_reducible exact V5.out | (with_reducible refine VarAt.apart ?_ _ _ (by omega))))⟩ ?_
      rintro z ⟨k0, k1⟩
      obtain ⟨zz, g0, g1, g2, _⟩ := k1.three
      have KZ := Lib.hid k0
      have HJ : Hid (j ≤ 900000) := Lib.hid (by omega)
      have HEX : ∃ b, z.heap.size = b := ⟨_, rfl⟩
      clear k0 k1 hwc hyc hwr hrow c0 c1 c2 c3 c4 c5 d0 d1 d2 d3 d4 d5 f0 f1 f2 zx x0 x1 x2 x3' x4' x5' y0 y1 y2 y3 y4 y5 zy u0 u1 u2 u3 u4 u5 s0 s1 s2 s3 s4 s5 hgx hgy hB0 hsz hsz4 h5s h5x hB5
      go_wp2_with (at_builtin; (refine wpList_appendR1 (by rfl) (.tmp 106) (.tmp 108) (by rfl) B0 (.slice la j cap) j vs (by rfl) (KZ.out.later (al_below z _)).own z.heap.size 1 ⟨N, xs, fl⟩ X5 kx5 (by rfl) (by go_simp) (by go_simp) (by go_simp) HJ.out (by have := KZ.out.size; simp; omega) ?_); (intro v9 w9 hown9 hg9 hv9; have HNX : Hid (RunS w2 gx gy B0 t c n m v9 (j + 1) s' w9) := Lib.hid ((KZ.out.later (al_below z _)).next HSUM.out HS'.out hown9 hg9 hv9); clear hown9 hg9 hv9))
      go_roundw
      case rel =>
        exact ⟨j + 1, s', by omega, by go_num, rfl, HNX.out⟩
      case measure => simp [intOf]; omega
    · obtain rfl : j = ln := by omega
      have d1 : decide ((j : Int) < (j : Int)) = false := by rw [decide_eq_false_iff_not]; omega
      have d1' : decide (j < j) = false := by rw [decide_eq_false_iff_not]; omega
      have hln := HLN.out
      have HW2 := Lib.hid (HR.out.below)
      obtain ⟨rl, vs, hrl, hsum, hown, hraw⟩ := HR.out.log
      obtain ⟨la, cap, rfl, hcap, hlog, _⟩ := hraw.raw.at_ hown (by omega)
      have HRL := Lib.hid hrl
      have HSUM := Lib.hid hsum
      have HCP := Lib.hid hcap
      have HLG := Lib.hid hlog
      obtain ⟨r1, G1, P0, P1, hgd, hwx, hwy⟩ := HR.out.run
      obtain ⟨Ax, kx, Rx, rax, Sx, sax, hWx, _⟩ := hwx
      obtain ⟨Ay, ky, Ry, ray, Sy, say, hWy, _⟩ := hwy
      have WX := Lib.hid hWx
      have WY := Lib.hid hWy
      have HAr := Lib.hid (HA.out.later HW2.out)
      have BBr := Lib.hid (BB.out.trans (HW2.out.mono BB.out.size))
      have hline := line_yes L j lc l la j cap rl (Nat.le_refl j) hcap (fun y hy => Nat.le_trans (HMW.out y hy) (by omega)) wr HAr HLG
      rw [hsum] at hline
      clear hrl hsum hown hraw hcap hlog hgd hWx hWy HR
      go_wp2_with fail
      (with_reducible refine hline.mono ?_)
      clear hline
      rintro e w3 ⟨rfl, hb3⟩
      go_upto_region 26 with fail
      have hbx3 : Below w3.heap.size w3 ((w3.alloc (.cells #[.int .i64 0, .int .i64 0, .int .u64 0, .int .u64 0, .slice none 0 0, .slice none 0 0] 43)).alloc (.cells #[.int .i64 0, .bool false, .int .i64 (j : Int), .int .u64 (sv : Int), .slice none 0 0] 52)) := below_pair _ _ _
      have O3 := Lib.hid (VarAt.made1 w3 (.cells #[.int .i64 0, .int .i64 0, .int .u64 0, .int .u64 0, .slice none 0 0, .slice none 0 0] 43) #[.int .i64 0, .bool false, .int .i64 (j : Int), .int .u64 (sv : Int), .slice none 0 0] 52)
      have hbn3 := hb3.trans (hbx3.mono hb3.size)
      generalize (w3.alloc (.cells #[.int .i64 0, .int .i64 0, .int .u64 0, .int .u64 0, .slice none 0 0, .slice none 0 0] 43)).alloc (.cells #[.int .i64 0, .bool false, .int .i64 (j : Int), .int .u64 (sv : Int), .slice none 0 0] 52) = x3 at hbx3 O3 hbn3 ⊢
      generalize w3.heap.size + 1 = b22 at O3 ⊢
      have HArn := Lib.hid (HAr.out.later hbn3); clear HAr; have HAr := HArn; clear HArn
      have HLGn := Lib.hid (HLG.out.later hbn3); clear HLG; have HLG := HLGn; clear HLGn
      have WXn := Lib.hid (WX.out.later hbn3); clear WX; have WX := WXn; clear WXn
      have WYn := Lib.hid (WY.out.later hbn3); clear WY; have WY := WYn; clear WYn
      have BBn := Lib.hid (BBr.out.trans (hbn3.mono BBr.out.size)); clear BBr; have BBr := BBn; clear BBn
      clear hbn3 hbx3 hb3
      have HNJ : Hid (j + 1 ≤ 140737488355328) := Lib.hid (by omega)
      have HJ9 : Hid (j ≤ 900000) := Lib.hid (by omega)
      go_wp2_with (first
        | (at_builtin; (refine wpList_appendR (w0 := x3) (by rfl) (.tmp 119) (.tmp 120) (by rfl) x3.heap.size _ 0 [] (by rfl) (World.ownsRow_made x3 #[] 0 (Nat.le_refl _) (Nat.zero_le _) rfl) la j cap rl (by rfl) HLG.out (al_below x3 _) (by have := HJ9.out; omega) (by simp) ?_); (intro v7 w7 ws7 hown7 hraw7 hg7; have hb7 : Below x3.heap.size x3 w7 := (al_below x3 _).grown hg7 (by simp) (fun k hk => by simp [Value.ownBlock] at hk; omega); have HB7 := Lib.hid hb7; have HO7 := Lib.hid hown7; have HR7 := Lib.hid hraw7; clear hown7 hraw7 hg7 hb7))
        | (at_builtin; (refine wpList_appendR1 (by rfl) (.tmp 121) (.tmp 123) (by rfl) x3.heap.size v7 (0 + j) _ (by rfl) (ownsRow_laterR HO7.out (al_below w7 _)) w7.heap.size 1 ⟨5, [], false⟩ none 0 (by rfl) (by first | (go_simp; done) | (go_simp; rfl)) (by first | (go_simp; done) | (go_simp; rfl)) (by first | (go_simp; done) | (go_simp; rfl)) (by have := HJ9.out; omega) (by have := HB7.out.size; simp; omega) ?_); (intro v8 w8 hown8 hg8 hv8; have hb8 : Below x3.heap.size x3 w8 := (HB7.out.trans ((al_below w7 _).mono HB7.out.size)).grown hg8 (by have := HB7.out.size; simp; omega) (fun k hk => (HO7.out.lt k hk).1); have HB8 := Lib.hid hb8; have HO8 := Lib.hid hown8; clear hown8 hg8 hv8 hb8)))
      have hraw8 : RawR w8 (([] ++ ws7) ++ resA ⟨5, [], false⟩ none 0) (rl ++ [⟨5, [], false⟩]) := by
        rw [List.nil_append]
        exact (HR7.out.later HB8.out).app (rawR_one (ResP.num _ 5 (by decide)))
      have HO8' := HO8.out
      rw [Nat.zero_add] at HO8'
      obtain ⟨lb, cap8, rfl, hcap8, hlog8, _⟩ := hraw8.at_ HO8' HNJ.out
      have hline := line_yes L j lc l lb (j + 1) cap8 (rl ++ [⟨5, [], false⟩]) (Nat.le_succ j) hcap8 (fun y hy => Nat.le_trans (HMW.out y hy) (by omega)) w8 (Lib.hid (HAr.out.later HB8.out)) (Lib.hid hlog8)
      rw [sumR_app rl ⟨5, [], false⟩ j (by have := HRL.out; omega), HSUM.out] at hline
      clear hraw8 HO8' hcap8 hlog8
      (with_reducible refine hline.mono ?_)
      clear hline
      rintro e w9 ⟨rfl, hb9⟩
      go_upto_region 27 with fail
      have hbx9 : Below w9.heap.size w9 ((w9.alloc (.cells #[.int .i64 0, .int .i64 0, .int .u64 0, .int .u64 0, .slice none 0 0, .slice none 0 0] 43)).alloc (.cells #[.int .i64 0, .bool false, .int .i64 (j : Int), .int .u64 (sv : Int), .slice none 0 0] 52)) := below_pair _ _ _
      have O9 := Lib.hid (VarAt.made1 w9 (.cells #[.int .i64 0, .int .i64 0, .int .u64 0, .int .u64 0, .slice none 0 0, .slice none 0 0] 43) #[.int .i64 0, .bool false, .int .i64 (j : Int), .int .u64 (sv : Int), .slice none 0 0] 52)
      have hbn9 := (HB8.out.trans (hb9.mono HB8.out.size)).trans (hbx9.mono (Nat.le_trans HB8.out.size hb9.size))
      generalize (w9.alloc (.cells #[.int .i64 0, .int .i64 0, .int .u64 0, .int .u64 0, .slice none 0 0, .slice none 0 0] 43)).alloc (.cells #[.int .i64 0, .bool false, .int .i64 (j : Int), .int .u64 (sv : Int), .slice none 0 0] 52) = x9 at hbx9 O9 hbn9 ⊢
      generalize w9.heap.size + 1 = b25 at O9 ⊢
      have O3n := Lib.hid (O3.out.below hbn9); clear O3; have O3 := O3n; clear O3n
      have WXn := Lib.hid (WX.out.later hbn9); clear WX; have WX := WXn; clear WXn
      have WYn := Lib.hid (WY.out.later hbn9); clear WY; have WY := WYn; clear WYn
      have BBn := Lib.hid (BBr.out.trans (hbn9.mono BBr.out.size)); clear BBr; have BBr := BBn; clear BBn
      clear hbn9 hbx9 hb9
      obtain ⟨_, ⟨p1, p2, p3, p4, p5⟩, _⟩ := O3.out.five
      obtain ⟨_, ⟨q1, q2, q3, q4, q5⟩, _⟩ := O9.out.five
      go_wp2_with fail
      (with_reducible refine (outs_same _ _ _ _).mono ?_)
      rintro e w10 ⟨rfl, hb⟩
      have O3n := Lib.hid (O3.out.below hb); clear O3; have O3 := O3n; clear O3n
      have WXn := Lib.hid (WX.out.later hb); clear WX; have WX := WXn; clear WXn
      have WYn := Lib.hid (WY.out.later hb); clear WY; have WY := WYn; clear WYn
      have BBn := Lib.hid (BBr.out.trans (hb.mono BBr.out.size)); clear BBr; have BBr := BBn; clear BBn
      clear hb p1 p2 p3 p4 p5 q1 q2 q3 q4 q5
      obtain ⟨_, ⟨p1, p2, p3, p4, p5⟩, _⟩ := O3.out.five
      obtain ⟨c0, c1, c2, c3, c4, c5⟩ := WX.out.cells
      obtain ⟨d0, d1, d2, d3, d4, d5⟩ := WY.out.cells
      go_wp2_with fail
      clear c0 c1 c2 c3 c4 c5 d0 d1 d2 d3 d4 d5
      (with_reducible refine (sameW_at t c Ax Ay n kx ky G1 (by have := HNN.out.2.1; omega) r1 Rx m rax Sx m sax Ry ray Sy say P0 P1 _ WX.out.gA WY.out.gA WX.out.g0 WX.out.g1 WY.out.g0 WY.out.g1).mono ?_)
      rintro e w11 ⟨rfl, hb⟩
      have BBn := Lib.hid (BBr.out.trans (hb.mono BBr.out.size)); clear BBr; have BBr := BBn; clear BBn
      clear hb p1 p2 p3 p4 p5
      go_wp2_with fail
      go_ret
      exact ⟨rfl, BBr.out⟩
section
set_option maxRecDepth 100000
set_option maxHeartbeats 2000000
variable {H : Type} {enc : TypeId × Value → H} {w : World}
theorem open_a {v : Value} {d : DataW H} {ps : List MemPlace} {base : Nat} (hval : Value.okWide Try.prog w .any base 59 v) (h : DataW.Trod enc Try.prog w 0 (fun _ => true) true 59 v d ps) (hs : Sized Try.prog 59 d) (hlt : ∀ z ∈ ps, z.block < w.heap.size) :
    ∃ (aLA : Option Addr) (aLL aLC : Nat) (aLl : List Acc) (aWMemT : Int) (aWMemC : Int) (aWMemWordA : Option Addr) (aWMemWordL aWMemWordC : Nat) (aWMemWordf : Nat → Nat) (aWDiskRoot : Nat) (aWDiskRows0A : Option Addr) (aWDiskRows0L aWDiskRows0C : Nat) (aWDiskRows0l : List Stm) (aWDiskRows1A : Option Addr) (aWDiskRows1L aWDiskRows1C : Nat) (aWDiskRows1l : List Stm) (aMe : Int) (aFailA : Option Addr) (aFailL aFailC : Nat) (aFailf : Nat → Bool), v = .agg #[.slice aLA aLL aLC, .int .i64 aWMemT, .int .i64 aWMemC, .slice aWMemWordA aWMemWordL aWMemWordC, .int .u64 (aWDiskRoot : Int), .slice aWDiskRows0A aWDiskRows0L aWDiskRows0C, .slice aWDiskRows1A aWDiskRows1L aWDiskRows1C, .int .i64 aMe, .slice aFailA aFailL aFailC] ∧ (aLL ≤ aLC ∧ AccsAt w aLA aLL aLl) ∧ (-9223372036854775808 ≤ aWMemT ∧ aWMemT < 9223372036854775808) ∧ (-9223372036854775808 ≤ aWMemC ∧ aWMemC < 9223372036854775808) ∧ (aWMemWordL ≤ aWMemWordC ∧ aWMemWordL ≤ 140737488355328 ∧ AtW w aWMemWordA aWMemWordL aWMemWordf) ∧ aWDiskRoot < 18446744073709551616 ∧ (aWDiskRows0L ≤ aWDiskRows0C ∧ StmsAt w aWDiskRows0A aWDiskRows0L aWDiskRows0l) ∧ (aWDiskRows1L ≤ aWDiskRows1C ∧ StmsAt w aWDiskRows1A aWDiskRows1L aWDiskRows1l) ∧ (-9223372036854775808 ≤ aMe ∧ aMe < 9223372036854775808) ∧ (aFailL ≤ aFailC ∧ AtBl w aFailA aFailL aFailf) := by
  obtain ⟨cs, rfl, hsz⟩ := okWide_struct Try.underlying59 hval
  obtain ⟨fuel, hf⟩ := h
  have hcs : (Value.agg cs).cells.toList = cs.toList := rfl
  rw [hcs] at hf
  have hcl : cs.toList.length = 9 := by rw [Array.length_toList, hsz]; kernel_rfl
  obtain ⟨c0, c1, c2, c3, c4, c5, c6, c7, c8, hL⟩ : ∃ c0 c1 c2 c3 c4 c5 c6 c7 c8, cs.toList = [c0, c1, c2, c3, c4, c5, c6, c7, c8] := ⟨_, _, _, _, _, _, _, _, _, cells_of hcl .nilIface⟩
  rw [hL] at hf
  rw [list_agg hL]
  clear hcl hL hsz hcs
  obtain ⟨y0, n0, g0, s0, q0⟩ := field_at Try.underlying59 hf 0 _ rfl 46 0 1 [c0] rfl rfl (by kernel_rfl) rfl hs hlt
  obtain ⟨aLA, aLL, aLC, aLl, e1, haL⟩ := leaf_accs g0 s0 q0
  cases e1
  obtain ⟨y2, n2, g2, s2, q2⟩ := field_at Try.underlying59 hf 1 _ rfl 35 1 6 [c1, c2, c3, c4, c5, c6] rfl rfl (by kernel_rfl) rfl hs hlt
  obtain ⟨y3, n3, g3, s3, q3⟩ := field_at Try.underlying35 g2 0 _ rfl 28 0 3 [c1, c2, c3] rfl rfl (by kernel_rfl) rfl s2 q2
  obtain ⟨y4, n4, g4, s4, q4⟩ := field_at Try.underlying28 g3 0 _ rfl 3 0 1 [c1] rfl rfl (by kernel_rfl) rfl s3 q3
  obtain ⟨aWMemT, e5, haWMemT⟩ := leaf_i64 Try.underlying3 g4
  cases e5
  obtain ⟨y6, n6, g6, s6, q6⟩ := field_at Try.underlying28 g3 1 _ rfl 3 1 1 [c2] rfl rfl (by kernel_rfl) rfl s3 q3
  obtain ⟨aWMemC, e7, haWMemC⟩ := leaf_i64 Try.underlying3 g6
  cases e7
  obtain ⟨y8, n8, g8, s8, q8⟩ := field_at Try.underlying28 g3 2 _ rfl 26 2 1 [c3] rfl rfl (by kernel_rfl) rfl s3 q3
  obtain ⟨aWMemWordA, aWMemWordL, aWMemWordC, aWMemWordf, e9, haWMemWord⟩ := leaf_words g8 s8 q8
  cases e9
  obtain ⟨y10, n10, g10, s10, q10⟩ := field_at Try.underlying35 g2 1 _ rfl 33 3 3 [c4, c5, c6] rfl rfl (by kernel_rfl) rfl s2 q2
  obtain ⟨y11, n11, g11, s11, q11⟩ := field_at Try.underlying33 g10 0 _ rfl 29 0 1 [c4] rfl rfl (by kernel_rfl) rfl s10 q10
  obtain ⟨aWDiskRoot, e12, haWDiskRoot⟩ := leaf_u64 Try.underlying29 g11
  cases e12
  obtain ⟨y13, n13, g13, s13, q13⟩ := field_at Try.underlying33 g10 1 _ rfl 31 1 2 [c5, c6] rfl rfl (by kernel_rfl) rfl s10 q10
  obtain ⟨y14, n14, g14, s14, q14⟩ := elem_at Try.underlying31 g13 0 (by decide) 1 [c5] (by kernel_rfl) rfl s13 q13
  obtain ⟨aWDiskRows0A, aWDiskRows0L, aWDiskRows0C, aWDiskRows0l, e15, haWDiskRows0⟩ := leaf_streams g14 s14 q14
  cases e15
  obtain ⟨y16, n16, g16, s16, q16⟩ := elem_at Try.underlying31 g13 1 (by decide) 1 [c6] (by kernel_rfl) rfl s13 q13
  obtain ⟨aWDiskRows1A, aWDiskRows1L, aWDiskRows1C, aWDiskRows1l, e17, haWDiskRows1⟩ := leaf_streams g16 s16 q16
  cases e17
  obtain ⟨y18, n18, g18, s18, q18⟩ := field_at Try.underlying59 hf 2 _ rfl 3 7 1 [c7] rfl rfl (by kernel_rfl) rfl hs hlt
  obtain ⟨aMe, e19, haMe⟩ := leaf_i64 Try.underlying3 g18
  cases e19
  obtain ⟨y20, n20, g20, s20, q20⟩ := field_at Try.underlying59 hf 3 _ rfl 23 8 1 [c8] rfl rfl (by kernel_rfl) rfl hs hlt
  obtain ⟨aFailA, aFailL, aFailC, aFailf, e21, haFail⟩ := leaf_bls g20 s20 q20
  cases e21
  exact ⟨aLA, aLL, aLC, aLl, aWMemT, aWMemC, aWMemWordA, aWMemWordL, aWMemWordC, aWMemWordf, aWDiskRoot, aWDiskRows0A, aWDiskRows0L, aWDiskRows0C, aWDiskRows0l, aWDiskRows1A, aWDiskRows1L, aWDiskRows1C, aWDiskRows1l, aMe, aFailA, aFailL, aFailC, aFailf, rfl, haL, haWMemT, haWMemC, haWMemWord, haWDiskRoot, haWDiskRows0, haWDiskRows1, haMe, haFail⟩
end

set_option maxRecDepth 100000 in
set_option maxHeartbeats 8000000 in
theorem lifted (os : Os) (started : os.Started) (H : Type) (enc : TypeId × Value → H) :
    ReturnsInHanded {} Try.checked os 5 .any (Rows.playStepsSpec.pre6 enc Try.prog Try.f5 Rows.playStepsRow.domain false) (Rows.playStepsSpec.post enc Try.prog Try.f5 false true false false) := by
  refine law_lifted (C := Try.checked) own started (by kernel_rfl) Try.func5
    (ChangeSpec.witness6 (enc := enc) (C := Try.checked) false ⟨#[], #[.agg #[.slice none 0 0, .int .i64 0, .int .i64 0, .slice none 0 0, .int .u64 0, .slice none 0 0, .slice none 0 0, .int .i64 0, .slice none 0 0]], []⟩ 8 (by kernel_rfl) (by kernel_rfl) (by kernel_rfl) (by kernel_rfl))
    (by kernel_rfl) (by kernel_rfl) Try.underlying4 rfl (by kernel_rfl) ?_
  intro W base args ds before hval hA hwt hlt
  have hA' : DataW.TrodAll enc Try.prog W 0 (fun _ => true) true Try.f5.params.toList args.toList ds before := hA
  have hval' : ∀ (j : Nat) t v, Try.f5.params[j]? = some t → args[j]? = some v → Value.okWide Try.prog W .any base t v := hval
  have hwt' : (DataW.weightsEach Try.prog Try.f5.params.toList ds).all (· ≤ reachBytes) = true := hwt
  rw [Try.params5] at hA' hval' hwt'
  obtain ⟨v0, vs0, d0, ds0, p0, q0, hargs, rfl, rfl, k0, r0⟩ := trodAll_cons hA'
  obtain ⟨rfl, rfl, rfl⟩ := trodAll_nil r0
  obtain rfl : args = #[v0] := by cases args; simp_all
  obtain ⟨aLA, aLL, aLC, aLl, aWMemT, aWMemC, aWMemWordA, aWMemWordL, aWMemWordC, aWMemWordf, aWDiskRoot, aWDiskRows0A, aWDiskRows0L, aWDiskRows0C, aWDiskRows0l, aWDiskRows1A, aWDiskRows1L, aWDiskRows1C, aWDiskRows1l, aMe, aFailA, aFailL, aFailC, aFailf, rfl, haL, haWMemT, haWMemC, haWMemWord, haWDiskRoot, haWDiskRows0, haWDiskRows1, haMe, haFail⟩ := open_a (hval' 0 59 v0 rfl rfl) k0 (sized_of hwt' (j := 0) (t := 59) rfl rfl) (fun x hx => hlt x (by simp [hx]))
  refine ⟨rfl, ?_⟩
  obtain ⟨_, hLat⟩ := haL
  obtain ⟨_, hlm, hAW⟩ := haWMemWord
  obtain ⟨_, h0⟩ := haWDiskRows0
  obtain ⟨_, h1⟩ := haWDiskRows1
  obtain ⟨_, hFat⟩ := haFail
  by_cases hf : fewA aLl aLL 30 = true
  · by_cases hsm : smallB aWMemT aWMemC aWMemWordL aWDiskRows0l aWDiskRows1l aMe = true
    · have hs2 := hsm
      unfold smallB at hs2
      simp only [Bool.and_eq_true, decide_eq_true_eq] at hs2
      obtain ⟨hfd, hrw, hn6, _, _⟩ := hs2
      obtain ⟨p1, p2, p3, p4, _, _, p7⟩ := right_parts hrw hfd h0.1 h1.1
      obtain ⟨_, _, fs⟩ := fewD_iff hfd
      subst p7
      exact walk aLA aLL aLC aLl aWMemT aWMemC aWMemWordA aWMemWordL aWMemWordC aWMemWordf aWDiskRoot aWDiskRows0A _ aWDiskRows0C aWDiskRows1A aWDiskRows1C aWDiskRows0l aWDiskRows1l aMe aFailA aFailL aFailC aFailf hf hsm p1 hn6 p2 p3 haWDiskRoot p4 (fun x hx => by have := sumN_mem hx; omega) (fun x hx => by have := sumN_mem hx; omega) W (Lib.hid hLat) (Lib.hid hAW) (Lib.hid h0) (Lib.hid h1) (Lib.hid hFat)
    · exact walkB aLA aLL aLC aLl aWMemT aWMemC aWMemWordA aWMemWordL aWMemWordC aWMemWordf aWDiskRoot aWDiskRows0A _ aWDiskRows0C aWDiskRows1A _ aWDiskRows1C aWDiskRows0l aWDiskRows1l aMe aFailA aFailL aFailC aFailf hf (by simpa using hsm) hlm W (Lib.hid hLat) (Lib.hid hAW) (Lib.hid h0) (Lib.hid h1) (Lib.hid hFat)
  · exact walkA aLA aLL aLC aLl aWMemT aWMemC aWMemWordA aWMemWordL aWMemWordC aWMemWordf aWDiskRoot aWDiskRows0A _ aWDiskRows0C aWDiskRows1A _ aWDiskRows1C aWDiskRows0l aWDiskRows1l aMe aFailA aFailL aFailC aFailf (by simpa using hf) W (Lib.hid hLat) (Lib.hid hAW) (Lib.hid h0) (Lib.hid h1) (Lib.hid hFat)

theorem over : Rows.playStepsRow.holds Try.pinned (OpenSpec.ofChange Rows.playStepsSpec) :=
  OpenClaim.holds_of_wide 5 Try.f5 rfl rfl rfl rfl rfl rfl rfl ⟨rfl, rfl, rfl, rfl, rfl⟩ rfl rfl rfl rfl rfl (by kernel_rfl) Try.func5 (by kernel_rfl)
    (of_decide_eq_true (by kernel_rfl)) (by unfold Func.isWrapper; first | (rw [if_pos (by decide +kernel)]; kernel_rfl) | (rw [if_neg (by decide +kernel)]; exact ⟨rfl, rfl⟩))
    (fun os started H enc _ => lifted os started H enc)

/-- The statement. -/
theorem proved : Rows.PlayStepsSaid :=
  over
#print axioms proved
end Go.Proofs.Ytjbhichgojjakaa.playSteps
