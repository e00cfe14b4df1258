/- ListSwept -/
import Derived.Test.YtibpfkcackdbgaaGreatDoorLstC
import Derived.Test.YtibpfkcackdbgaaGreatDoorLstSeek
import Derived.Test.YtibpfkcackdbgaaGreatDoorLstSwp
import Derived.Test.YtibpfkcackdbgaaGreatDoorLstGrow
import Derived.Test.YtibpfkcackdbgaaGreatDoorLstLinked
import Derived.Test.YtibpfkcackdbgaaGreatDoorAccBls
import Derived.Test.YtibpfkcackdbgaaGreatDoorAccB
import Derived.Test.YtibpfkcackdbgaaGreatDoorSmal
import Derived.Test.YtibpfkcackdbgaaGreatDoorCards
import Derived.Test.YtibpfkcackdbgaaGreatDoorTie
import Derived.Test.YtibpfkcackdbgaaGreatDoorLaw
import Derived.Test.YtibpfkcackdbgaaGreatDoorFields
import Derived.Deep.Cut
import Derived.Deep.CutRange
namespace Go.Proofs.YtibpfkcackdbgaaGreatDoor.listSwept
open Go.ChangeShapes Go.WideShapes Go.ChangeAt Go.RowKit Go.Deep Go.BigFrame
set_option linter.unusedVariables false
theorem own : ownKnob Tryz.prog.godebug = none := by kernel_rfl
abbrev laidHalf : List (String × DataW Unit) := [("weald/crc.half", Rows.laid_weald_crc_half)]
theorem door_met (os : Os) (args : Array Value) : laidMetH Tryz.prog laidHalf ((World.doorLaid Tryz.prog 400 os).forCall (fun _ _ => 0) ⟨#[], args, []⟩).memory :=
  laidMetH_of_parts3 (fuel := 8) (laidMet_of_run' 8 (by kernel_rfl) (by kernel_rfl)) (by kernel_rfl) (by kernel_rfl)
structure SwRel (w : World) (b : Nat) (V : List Value) (A1 : Option Addr) (N : Nat) (G9 : Nat → Nat) (la sa : Option Addr) (l : List Nat) (x : World) : Prop where
  below : Below w.heap.size w x
  var : VarAt x b V
  row : AtW x A1 N G9
  la_ : ∀ j y : Nat, l[j]? = some y → ∃ g, la = some ⟨g, 0, none⟩ ∧ x.cell? ⟨g, j, none⟩ = some (.int .i64 (y : Int))
  sa_ : ∀ j y : Nat, l[j]? = some y → ∃ g, sa = some ⟨g, 0, none⟩ ∧ x.cell? ⟨g, j, none⟩ = some (.int .i64 (y : Int))
theorem SwRel.drewN {w x : World} {b : Nat} {V : List Value} {A1 : Option Addr} {N : Nat} {G9 : Nat → Nat} {la sa : Option Addr} {l : List Nat} (h : SwRel w b V A1 N G9 la sa l x) (q : Nat) : SwRel w b V A1 N G9 la sa l (x.drewN q) :=
  ⟨below_draw h.below q, h.var, h.row, h.la_, h.sa_⟩
theorem swept_has {t st : Nat} {l0 : List Nat} {p : Nat} {G G' : Nat → Nat} {x' : Nat} {q : Nat → Bool} {r : Nat} (h : Swept t st l0 p G G' x' (l0.filter q)) (hr : r ∈ l0) : hasF (G' (fieldN t r 2)) 2 = !(q r) := by
  rw [h.dead r hr]
  congr 1
  cases hq : q r with
  | true => rw [List.contains_iff_mem]; exact List.mem_filter.2 ⟨hr, hq⟩
  | false =>
    rw [Bool.eq_false_iff]
    intro hc
    rw [List.contains_iff_mem] at hc
    have := (List.mem_filter.1 hc).2
    rw [hq] at this
    cases this
set_option maxRecDepth 100000 in
set_option maxHeartbeats 16000000 in
theorem walkLong (A : Option Addr) (n ac : Nat) (xs : List Nat) (M : Option Addr) (mn mc : Nat) (mf : Nat → Bool) (k : Nat) (hn : 10 < n) (w : World) (HTab : Hid (Tab w)) (HX : Hid (AtB w A n xs)) (HM : Hid (BlsAt w M mn mf)) :
    Calls Tryz.prog 4 #[.slice A n ac, .slice M mn mc, .int .u8 (k : Int)] w fun e w' => e = .returned (.bool true) ∧ Below w.heap.size w w' := by
  have d1 : decide ((10 : Int) < (n : Int)) = true := by rw [decide_eq_true_iff]; omega
  have d1n : decide (10 < n) = true := by rw [decide_eq_true_iff]; omega
  go_enter Tryz.func4, Tryz.ntmps4
  go_wp2_with fail
  (with_reducible refine (lstShown _ HTab).mono ?_)
  rintro e w1 ⟨rfl, hb⟩
  have BB := Lib.hid hb
  go_wp2_with fail
  go_ret
  exact ⟨rfl, BB.out⟩
set_option maxRecDepth 100000 in
set_option maxHeartbeats 16000000 in
theorem walkFew (A : Option Addr) (n ac : Nat) (xs : List Nat) (M : Option Addr) (mn mc : Nat) (mf : Nat → Bool) (k : Nat) (hn : n ≤ 10) (hm : mn < n) (w : World) (HTab : Hid (Tab w)) (HX : Hid (AtB w A n xs)) (HM : Hid (BlsAt w M mn mf)) :
    Calls Tryz.prog 4 #[.slice A n ac, .slice M mn mc, .int .u8 (k : Int)] w fun e w' => e = .returned (.bool true) ∧ Below w.heap.size w w' := by
  have d1 : decide ((10 : Int) < (n : Int)) = false := by rw [decide_eq_false_iff_not]; omega
  have d1n : decide (10 < n) = false := by rw [decide_eq_false_iff_not]; omega
  have d2 : decide ((mn : Int) < (n : Int)) = true := by rw [decide_eq_true_iff]; omega
  have d2n : decide (mn < n) = true := by rw [decide_eq_true_iff]; omega
  go_enter Tryz.func4, Tryz.ntmps4
  go_wp2_with fail
  (with_reducible refine (lstShown _ HTab).mono ?_)
  rintro e w1 ⟨rfl, hb⟩
  have BB := Lib.hid hb
  go_wp2_with fail
  go_ret
  exact ⟨rfl, BB.out⟩
set_option maxRecDepth 100000 in
set_option maxHeartbeats 16000000 in
theorem walkMain (A : Option Addr) (n ac : Nat) (xs : List Nat) (M : Option Addr) (mn mc : Nat) (mf : Nat → Bool) (k : Nat) (hn : n ≤ 10) (hm : n ≤ mn) (hk : k < 256) (w : World) (HTab : Hid (Tab w)) (HX : Hid (AtB w A n xs)) (HM : Hid (BlsAt w M mn mf)) :
    Calls Tryz.prog 4 #[.slice A n ac, .slice M mn mc, .int .u8 (k : Int)] w fun e w' => e = .returned (.bool true) ∧ Below w.heap.size w w' := by
  have d1 : decide ((10 : Int) < (n : Int)) = false := by rw [decide_eq_false_iff_not]; omega
  have d1n : decide (10 < n) = false := by rw [decide_eq_false_iff_not]; omega
  have d2 : decide ((mn : Int) < (n : Int)) = false := by rw [decide_eq_false_iff_not]; omega
  have d2n : decide (mn < n) = false := by rw [decide_eq_false_iff_not]; omega
  have HN : ∀ w, Calls Tryz.prog 13 #[.int .i64 1, .int .i64 10] w (NewWdO w 1 10 (sizeN 1 10) (newF 1 10)) := fun w => newWdO_at 1 10 (by decide) (by decide) (by decide) w
  obtain ⟨es, hes⟩ : ∃ es : Nat → Nat, es = fun i => xs.getD i 0 := ⟨_, rfl⟩
  have hg : ∀ i, es i < 256 := fun i => by
    rw [hes]
    by_cases h : i < xs.length
    · exact HX.out.2.1 _ (by simp only [List.getD_eq_getElem?_getD, List.getElem?_eq_getElem h]; exact List.getElem_mem h)
    · simp [List.getD_eq_getElem?_getD, List.getElem?_eq_none (Nat.le_of_not_lt h)]
  obtain ⟨st, hst⟩ : ∃ st, k % 4 = st := ⟨_, rfl⟩
  have LA := Lib.hid (fun i (hi : i ≤ 10) => laidS_all es mf i hi)
  have HGG := Lib.hid (And.intro hg hes)
  have hszN : sizeN 1 10 = 89 := rfl
  have KB := Lib.hid (And.intro hn (And.intro hm (And.intro hk hst)))
  have HCON := Lib.hid (sweep_laid (laidS_all es mf n hn) hn st)
  clear hg hes hn hm hst
  have hz0 : swG es mf 0 = newF 1 10 := rfl
  generalize newF 1 10 = G0 at *
  generalize hNN : sizeN 1 10 = N at *
  have HNN := Lib.hid hszN
  clear hNN hszN
  go_enter Tryz.func4, Tryz.ntmps4
  go_wp2_with fail
  (with_reducible refine (lstShown _ HTab).mono ?_)
  rintro e w1 ⟨rfl, hb⟩
  have BB := Lib.hid hb
  clear hb
  go_wp2_with fail
  (with_reducible refine (HN _).mono ?_)
  clear HN
  rintro e w0 ⟨g0, R0, ra0, S0, sa0, rfl, hrow, hs0, hs1, ho0, ho1, hb, hg0⟩
  go_upto_region 6 with fail
  have hbx := al_below w0 (.cells #[.int .i64 1, .int .i64 10, .slice (some ⟨g0, 0, none⟩) N N, .int .u64 0, .slice R0 1 ra0, .slice S0 1 sa0] 33)
  have W0 : WdO (w0.alloc (.cells #[.int .i64 1, .int .i64 10, .slice (some ⟨g0, 0, none⟩) N N, .int .u64 0, .slice R0 1 ra0, .slice S0 1 sa0] 33)) w0.heap.size 1 10 g0 N R0 1 ra0 S0 sa0 G0 (zerosS 1) (zerosS 1) :=
    ⟨VarAt.made w0 _ _, hrow.later hbx, hs0.later hbx, hs1.later hbx, (ho0.mono fun b hb => hb.1).later hs0 hbx, (ho1.mono fun b hb => hb.1).later hs1 hbx, by have := hrow.1; omega⟩
  have HG0 := Lib.hid (show w.heap.size ≤ g0 by have := BB.out.size; omega)
  have hbb := BB.out.trans ((hb.trans (hbx.mono hb.size)).mono BB.out.size)
  clear hrow hs0 hs1 ho0 ho1 hb hg0 hbx
  generalize w0.alloc (.cells #[.int .i64 1, .int .i64 10, .slice (some ⟨g0, 0, none⟩) N N, .int .u64 0, .slice R0 1 ra0, .slice S0 1 sa0] 33) = x0 at W0 hbb ⊢
  have hB0 : w.heap.size ≤ x0.heap.size := hbb.size
  generalize w0.heap.size = b0 at W0 ⊢
  rw [← hz0] at W0
  have W1 := WdB.of W0
  clear W0
  have W0 := W1
  clear W1
  obtain ⟨B0, hB⟩ : ∃ B, x0.heap.size = B := ⟨_, rfl⟩
  rw [hB] at W0 hB0
  have HREL := Lib.hid (And.intro W0 (And.intro hbb hB0))
  clear W0 hbb BB hz0 hB hB0
  have hks : (k : Int) % 4 = (st : Int) := by have := KB.out.2.2.2; omega
  have hkt : (k : Int).tmod 4 = (st : Int) := by rw [Int.tmod_eq_emod_of_nonneg (by omega)]; exact hks
  have hst4 : st < 4 := by have := KB.out.2.2.2; omega
  go_wp2_with fail
  go_loopw [11, 12] (fun vs vi wr => ∃ i, i ≤ n ∧ vi = .int .i64 (i : Int) ∧ OwnI wr B0 vs ((List.range' 1 i).filter (stayS es mf st)) ∧ WdB wr b0 1 10 g0 N R0 1 ra0 S0 sa0 (swG es mf i) (zerosS 1) (zerosS 1) B0 ∧ Below w.heap.size w wr) (fun _ vi _ => n - (intOf vi).toNat)
  case atStart => exact ⟨0, Nat.zero_le _, rfl, OwnI.nil _ _, HREL.out.1, HREL.out.2.1⟩
  case round =>
    have HB0 := Lib.hid HREL.out.2.2
    clear HREL x0
    obtain ⟨i, hin, rfl, hown, hwd, hbw⟩ := hrel
    have WD := Lib.hid hwd
    have BW := Lib.hid hbw
    have OW := Lib.hid hown
    clear hwd hbw hown
    have HIN := Lib.hid hin
    by_cases hi : i < n
    · have d3 : decide ((i : Int) < (n : Int)) = true := by rw [decide_eq_true_iff]; omega
      have d3n : decide (i < n) = true := by rw [decide_eq_true_iff]; omega
      have hgl := HGG.out.1 i
      have h10 := KB.out.1
      have hAX := AtB.later HX BW.out
      obtain ⟨xb, xo, rfl, _, hxc⟩ := hAX.2.2.2 (by omega)
      have x1 := hxc i hi
      rw [show xs.getD i 0 = es i by rw [HGG.out.2]] at x1
      clear hxc hAX
      have j1 : (0 : Int) ≤ (i : Int) := by omega
      have j2 : (i : Int) < (n : Int) := by omega
      have j3 : (i : Int) < (mn : Int) := by have := KB.out.2.1; omega
      have hIG : ∀ w, Calls Tryz.prog 18 #[.int .i64 1, .int .i64 (i : Int)] w fun e w' => e = .returned (.int .i64 (nextN 1 i : Nat)) ∧ w = w' := fun w => refNext_any 1 i (by decide) (by omega) w
      have hRG : ∀ w, Calls Tryz.prog 18 #[.int .i64 1, .int .i64 ((i + 1 : Nat) : Int)] w fun e w' => e = .returned (.int .i64 (nextN 1 (i + 1) : Nat)) ∧ w = w' := fun w => refNext_any 1 (i + 1) (by decide) (by omega) w
      have hF1 : ∀ w, Calls Tryz.prog 15 #[.int .i64 1, .int .i64 ((i + 1 : Nat) : Int), .int .i64 1] w fun e w' => e = .returned (.int .i64 (fieldN 1 (i + 1) 1 : Nat)) ∧ w = w' := fun w => refField_any 1 (i + 1) 1 (by decide) (by omega) (by omega) (by decide) w
      have qf1 : fieldN 1 (i + 1) 1 < N := by have := HNN.out; unfold fieldN; omega
      have hF2 : ∀ w, Calls Tryz.prog 15 #[.int .i64 1, .int .i64 ((i + 1 : Nat) : Int), .int .i64 2] w fun e w' => e = .returned (.int .i64 (fieldN 1 (i + 1) 2 : Nat)) ∧ w = w' := fun w => refField_any 1 (i + 1) 2 (by decide) (by omega) (by omega) (by decide) w
      have qf2 : fieldN 1 (i + 1) 2 < N := by have := HNN.out; unfold fieldN; omega
      have hF4 : ∀ w, Calls Tryz.prog 15 #[.int .i64 1, .int .i64 ((i + 1 : Nat) : Int), .int .i64 4] w fun e w' => e = .returned (.int .i64 (fieldN 1 (i + 1) 4 : Nat)) ∧ w = w' := fun w => refField_any 1 (i + 1) 4 (by decide) (by omega) (by omega) (by decide) w
      have qf4 : fieldN 1 (i + 1) 4 < N := by have := HNN.out; unfold fieldN; omega
      have hF5 : ∀ w, Calls Tryz.prog 15 #[.int .i64 1, .int .i64 ((i + 1 : Nat) : Int), .int .i64 5] w fun e w' => e = .returned (.int .i64 (fieldN 1 (i + 1) 5 : Nat)) ∧ w = w' := fun w => refField_any 1 (i + 1) 5 (by decide) (by omega) (by omega) (by decide) w
      have qf5 : fieldN 1 (i + 1) 5 < N := by have := HNN.out; unfold fieldN; omega
      have q3 : nextN 1 i < N := by have := HNN.out; unfold nextN fieldN; split <;> omega
      have q4 : nextN 1 (i + 1) < N := by have := HNN.out; unfold nextN fieldN; split <;> omega
      have hm1 := markOf_le mf i
      have LI := (LA.out i (by omega)).last
      -- letters
      obtain ⟨r, hr⟩ : ∃ r, i + 1 = r := ⟨_, rfl⟩
      rw [hr] at hRG hF1 qf1 hF2 qf2 hF4 qf4 hF5 qf5 q4
      have HR := Lib.hid hr
      have er : IntKind.i64.wrap ((i : Int) + 1) = (r : Int) := by rw [IntKind.wrap_i64]; omega
      obtain ⟨y, hy⟩ : ∃ x, es i = x := ⟨_, rfl⟩
      rw [hy] at hgl x1
      obtain ⟨su, hsu⟩ : ∃ x, y % 4 = x := ⟨_, rfl⟩
      obtain ⟨sv, hsv⟩ : ∃ x, y / 4 % 4 = x := ⟨_, rfl⟩
      obtain ⟨y4, hy4⟩ : ∃ x, y / 4 = x := ⟨_, rfl⟩
      have m1 : (y : Int) % 4 = (su : Int) := by omega
      have m2 : (y : Int).tmod 4 = (su : Int) := by rw [Int.tmod_eq_emod_of_nonneg (by omega)]; exact m1
      have m3 : (y : Int) / 4 = (y4 : Int) := by omega
      have m4 : (y : Int).tdiv 4 = (y4 : Int) := by rw [Int.tdiv_eq_ediv_of_nonneg (by omega)]; exact m3
      have m5 : (y4 : Int) % 4 = (sv : Int) := by omega
      have m6 : (y4 : Int).tmod 4 = (sv : Int) := by rw [Int.tmod_eq_emod_of_nonneg (by omega)]; exact m5
      have su4 : su < 4 := by omega
      have sv4 : sv < 4 := by omega
      have y464 : y4 < 64 := by omega
      obtain ⟨vx, hvx⟩ : ∃ b, decide (128 ≤ y) = b := ⟨_, rfl⟩
      have hvx2 : decide ((128 : Int) ≤ (y : Int)) = vx := by rw [← hvx]; simp [decide_eq_decide]; omega
      have hvx3 : decide ((y : Int) ≥ 128) = vx := hvx2
      have HV := Lib.hid (And.intro hy (And.intro hsu (And.intro hsv hvx)))
      clear hy hsu hsv hy4 hvx hr hin
      obtain ⟨l1, hl1⟩ : ∃ l, (List.range' 1 i).filter (stayS es mf st) = l := ⟨_, rfl⟩
      rw [hl1] at OW
      obtain ⟨GA, hGA⟩ : ∃ G, swG es mf i = G := ⟨_, rfl⟩
      rw [hGA] at WD LI
      have hGS : swG es mf r = layM i (mf i) (layN i (sw5 i sv (sw4 i su (layF i (sw2 i y (sw1 i GA)))))) := by
        have hh := HV.out
        rw [← HR.out, ← hh.2.1, ← hh.2.2.1, ← hGA, ← hh.1]; rfl
      have e0 : sw5 i sv (sw4 i su (layF i (sw2 i y (sw1 i GA)))) (nextN 1 i) = markOf mf i := by
        have hz := swF_next (i := i) (e := y) (r := i) (G := GA)
        unfold swF at hz
        rw [HV.out.2.1, HV.out.2.2.1] at hz
        rw [hz, LI]
      obtain ⟨GB, hGB⟩ : ∃ G, sw1 i GA = G := ⟨_, rfl⟩
      obtain ⟨GC, hGC⟩ : ∃ G, sw2 i y GB = G := ⟨_, rfl⟩
      obtain ⟨GD, hGD⟩ : ∃ G, layF i GC = G := ⟨_, rfl⟩
      obtain ⟨GE, hGE⟩ : ∃ G, sw4 i su GD = G := ⟨_, rfl⟩
      obtain ⟨GF, hGF⟩ : ∃ G, sw5 i sv GE = G := ⟨_, rfl⟩
      obtain ⟨GH, hGH⟩ : ∃ G, layN i GF = G := ⟨_, rfl⟩
      obtain ⟨GI, hGI⟩ : ∃ G, layM i true GH = G := ⟨_, rfl⟩
      rw [hGB, hGC, hGD, hGE, hGF, hGH] at hGS
      rw [hGB, hGC, hGD, hGE, hGF] at e0
      obtain ⟨p1, hp1⟩ : ∃ x, fieldN 1 r 1 = x := ⟨_, rfl⟩
      obtain ⟨p2, hp2⟩ : ∃ x, fieldN 1 r 2 = x := ⟨_, rfl⟩
      obtain ⟨p4, hp4⟩ : ∃ x, fieldN 1 r 4 = x := ⟨_, rfl⟩
      obtain ⟨p5, hp5⟩ : ∃ x, fieldN 1 r 5 = x := ⟨_, rfl⟩
      obtain ⟨pi, hpi⟩ : ∃ x, nextN 1 i = x := ⟨_, rfl⟩
      obtain ⟨pr, hpr⟩ : ∃ x, nextN 1 r = x := ⟨_, rfl⟩
      obtain ⟨r2, hr2⟩ : ∃ x, 2 * r = x := ⟨_, rfl⟩
      obtain ⟨r4, hr4⟩ : ∃ x, 4 * r = x := ⟨_, rfl⟩
      obtain ⟨rv, hrv⟩ : ∃ x, r * 2147483648 = x := ⟨_, rfl⟩
      obtain ⟨mi, hmi⟩ : ∃ x, markOf mf i = x := ⟨_, rfl⟩
      rw [hmi] at e0 hm1
      obtain ⟨h2, hh2⟩ : ∃ x, mi + r2 = x := ⟨_, rfl⟩
      have g1 : setW GA p1 r2 = GB := by rw [← hGB, ← hp1, ← hr2, ← HR.out]; rfl
      have g2 : vx = true → setW GB p1 rv = GC := fun h => by
        have hh := HV.out.2.2.2
        rw [h, decide_eq_true_iff] at hh
        rw [← hGC, ← hp1, ← hrv, ← HR.out]; unfold sw2; rw [if_pos hh]
      have g2n : vx = false → GB = GC := fun h => by
        have hh := HV.out.2.2.2
        rw [h, decide_eq_false_iff_not] at hh
        rw [← hGC]; unfold sw2; rw [if_neg hh]
      have g3 : setW GC p2 r4 = GD := by rw [← hGD, ← hp2, ← hr4, ← HR.out]; rfl
      have g4 : setW GD p4 su = GE := by rw [← hGE, ← hp4, ← HR.out]; rfl
      have g5 : setW GE p5 sv = GF := by rw [← hGF, ← hp5, ← HR.out]; rfl
      have g6 : setW GF pi h2 = GH := by rw [← hGH, ← hpi, ← hh2, ← hr2, ← HR.out]; conv => rhs; unfold layN
                                         rw [hpi, ← e0, hpi]
      have g7 : setW GH pr 1 = GI := by rw [← hGI, ← hpr, ← HR.out]; unfold layM; rw [if_pos rfl]
      have g8 : mf i = true → swG es mf r = GI := fun h => by rw [hGS, h, hGI]
      have g9 : mf i = false → swG es mf r = GH := fun h => by rw [hGS, h]; unfold layM; rw [if_neg (by decide)]
      have hrow0 : ∀ x, WdB x b0 1 10 g0 N R0 1 ra0 S0 sa0 GF (zerosS 1) (zerosS 1) B0 → x.cell? ⟨g0, pi, none⟩ = some (.int .u64 (mi : Int)) := fun x hx => by rw [← e0, hpi]; exact hx.wd.row.2.2.1 _ (by rw [← hpi]; exact q3)
      have h11 : r ≤ 10 := by have := HR.out; omega
      have e2 : IntKind.i64.wrap (2 * (r : Int)) = (r2 : Int) := by rw [IntKind.wrap_i64]; omega
      have e2' : IntKind.u64.wrap (r2 : Int) = (r2 : Int) := by rw [IntKind.wrap_u64]; omega
      have e3 : IntKind.u64.wrap (r : Int) = (r : Int) := by rw [IntKind.wrap_u64]; omega
      have e3' : IntKind.u64.wrap ((r : Int) * 2147483648) = (rv : Int) := by rw [IntKind.wrap_u64]; omega
      have e4 : IntKind.i64.wrap (4 * (r : Int)) = (r4 : Int) := by rw [IntKind.wrap_i64]; omega
      have e4' : IntKind.u64.wrap (r4 : Int) = (r4 : Int) := by rw [IntKind.wrap_u64]; omega
      have e8 : IntKind.u64.wrap ((mi : Int) + (r2 : Int)) = (h2 : Int) := by rw [IntKind.wrap_u64]; omega
      have v1 : r2 < 18446744073709551616 := by omega
      have v2 : rv < 18446744073709551616 := by omega
      have v3 : r4 < 18446744073709551616 := by omega
      have v6 : h2 < 18446744073709551616 := by omega
      rw [hp1] at hF1 qf1
      rw [hp2] at hF2 qf2
      rw [hp4] at hF4 qf4
      rw [hp5] at hF5 qf5
      rw [hpi] at hIG q3
      rw [hpr] at hRG q4
      have GQ := Lib.hid (And.intro g1 (And.intro g2 (And.intro g2n (And.intro g3 (And.intro g4 (And.intro g5 (And.intro g6 (And.intro g7 (And.intro g8 g9)))))))))
      have VQ := Lib.hid (And.intro v1 (And.intro v2 (And.intro v3 v6)))
      have HRW := Lib.hid hrow0
      have HL1 := Lib.hid hl1
      have HQ := Lib.hid (And.intro qf1 (And.intro qf2 (And.intro qf4 (And.intro qf5 (And.intro q3 q4)))))
      clear hl1 hGA hGS e0 hGB hGC hGD hGE hGF hGH hGI hp1 hp2 hp4 hp5 hpi hpr hr2 hr4 hrv hmi hh2 g1 g2 g2n g3 g4 g5 g6 g7 g8 g9 hrow0 v1 v2 v3 v6 qf1 qf2 qf4 qf5 q3 q4 hgl hm1 LI h10
      go_upto_region 15 with fail
      obtain ⟨c0, c1, c2, c3, c4, c5⟩ := WD.out.wd.cells
      have i1 : (0 : Int) ≤ (p1 : Int) := by omega
      have i2 : (p1 : Int) < (N : Int) := by have := HQ.out.1; omega
      have i3 := WD.out.wd.row.2.2.1 p1 HQ.out.1
      have i4 := WD.out.wd.row.2.2.2 p1
      go_cut [] from 66 to 74 (fun wx => WdB wx b0 1 10 g0 N R0 1 ra0 S0 sa0 GB (zerosS 1) (zerosS 1) B0 ∧ OwnI wx B0 u11 l1 ∧ Below w.heap.size w wx)
      case first =>
        go_region_with ((go_at_call 15; (with_reducible refine (hF1 _).mono ?_); rintro e w' ⟨rfl, rfl⟩))
        all_goals
          go_wp2_with fail
          go_meet
          have hput := WD.out.put p1 r2 HQ.out.1 VQ.out.1
          rw [GQ.out.1] at hput
          have hg := HG0.out
          have hbb := BW.out
          have how := OW.out.apart g0 p1 (.int .u64 (r2 : Int)) WD.out.gB
          exact ⟨by first | exact hput | exact hput.later (Below.drew (Below.refl _ _)), by first | exact how | exact how.later (Below.drew (Below.refl _ _)), by repeat (first | with_reducible assumption | with_reducible refine Below.drew ?_ | (with_reducible refine below_set1 (by omega) _ ?_))⟩
      obtain ⟨hwn, hon, hbn⟩ := hcut
      clear c0 c1 c2 c3 c4 c5 i1 i2 i3 i4 WD BW OW
      have WD := Lib.hid hwn
      have BW := Lib.hid hbn
      have OW := Lib.hid hon
      clear hwn hbn hon
      go_upto_if 75 with (fail)
      go_cut [] from 76 to 84 (fun wx => WdB wx b0 1 10 g0 N R0 1 ra0 S0 sa0 GC (zerosS 1) (zerosS 1) B0 ∧ OwnI wx B0 u11 l1 ∧ Below w.heap.size w wx)
      case first =>
        cases vx with
        | true =>
          go_upto_region 17 with fail
          obtain ⟨c0, c1, c2, c3, c4, c5⟩ := WD.out.wd.cells
          have i1 : (0 : Int) ≤ (p1 : Int) := by omega
          have i2 : (p1 : Int) < (N : Int) := by have := HQ.out.1; omega
          have i3 := WD.out.wd.row.2.2.1 p1 HQ.out.1
          have i4 := WD.out.wd.row.2.2.2 p1
          go_cut [] from 76 to 84 (fun wx => WdB wx b0 1 10 g0 N R0 1 ra0 S0 sa0 GC (zerosS 1) (zerosS 1) B0 ∧ OwnI wx B0 u11 l1 ∧ Below w.heap.size w wx)
          case first =>
            go_region_with ((go_at_call 15; (with_reducible refine (hF1 _).mono ?_); rintro e w' ⟨rfl, rfl⟩))
            all_goals
              go_wp2_with fail
              go_meet
              have hput := WD.out.put p1 rv HQ.out.1 VQ.out.2.1
              rw [(GQ.out.2.1 (by first | rfl | trivial))] at hput
              have hg := HG0.out
              have hbb := BW.out
              have how := OW.out.apart g0 p1 (.int .u64 (rv : Int)) WD.out.gB
              exact ⟨by first | exact hput | exact hput.later (Below.drew (Below.refl _ _)), by first | exact how | exact how.later (Below.drew (Below.refl _ _)), by repeat (first | with_reducible assumption | with_reducible refine Below.drew ?_ | (with_reducible refine below_set1 (by omega) _ ?_))⟩
          obtain ⟨hwn, hon, hbn⟩ := hcut
          clear c0 c1 c2 c3 c4 c5 i1 i2 i3 i4 WD BW OW
          have WD := Lib.hid hwn
          have BW := Lib.hid hbn
          have OW := Lib.hid hon
          clear hwn hbn hon
          go_wp2_with fail
          go_meet
          exact ⟨WD.out, OW.out, BW.out⟩
        | false =>
          rw [GQ.out.2.2.1 rfl] at WD
          go_wp2_with fail
          go_meet
          exact ⟨WD.out, OW.out, BW.out⟩
      obtain ⟨hwn, hon, hbn⟩ := hcut
      clear WD BW OW
      have WD := Lib.hid hwn
      have BW := Lib.hid hbn
      have OW := Lib.hid hon
      clear hwn hbn hon
      go_upto_region 18 with fail
      obtain ⟨c0, c1, c2, c3, c4, c5⟩ := WD.out.wd.cells
      have i1 : (0 : Int) ≤ (p2 : Int) := by omega
      have i2 : (p2 : Int) < (N : Int) := by have := HQ.out.2.1; omega
      have i3 := WD.out.wd.row.2.2.1 p2 HQ.out.2.1
      have i4 := WD.out.wd.row.2.2.2 p2
      go_cut [] from 85 to 93 (fun wx => WdB wx b0 1 10 g0 N R0 1 ra0 S0 sa0 GD (zerosS 1) (zerosS 1) B0 ∧ OwnI wx B0 u11 l1 ∧ Below w.heap.size w wx)
      case first =>
        go_region_with ((go_at_call 15; (with_reducible refine (hF2 _).mono ?_); rintro e w' ⟨rfl, rfl⟩))
        all_goals
          go_wp2_with fail
          go_meet
          have hput := WD.out.put p2 r4 HQ.out.2.1 VQ.out.2.2.1
          rw [GQ.out.2.2.2.1] at hput
          have hg := HG0.out
          have hbb := BW.out
          have how := OW.out.apart g0 p2 (.int .u64 (r4 : Int)) WD.out.gB
          exact ⟨by first | exact hput | exact hput.later (Below.drew (Below.refl _ _)), by first | exact how | exact how.later (Below.drew (Below.refl _ _)), by repeat (first | with_reducible assumption | with_reducible refine Below.drew ?_ | (with_reducible refine below_set1 (by omega) _ ?_))⟩
      obtain ⟨hwn, hon, hbn⟩ := hcut
      clear c0 c1 c2 c3 c4 c5 i1 i2 i3 i4 WD BW OW
      have WD := Lib.hid hwn
      have BW := Lib.hid hbn
      have OW := Lib.hid hon
      clear hwn hbn hon
      go_upto_region 19 with fail
      obtain ⟨c0, c1, c2, c3, c4, c5⟩ := WD.out.wd.cells
      have i1 : (0 : Int) ≤ (p4 : Int) := by omega
      have i2 : (p4 : Int) < (N : Int) := by have := HQ.out.2.2.1; omega
      have i3 := WD.out.wd.row.2.2.1 p4 HQ.out.2.2.1
      have i4 := WD.out.wd.row.2.2.2 p4
      go_cut [] from 94 to 100 (fun wx => WdB wx b0 1 10 g0 N R0 1 ra0 S0 sa0 GE (zerosS 1) (zerosS 1) B0 ∧ OwnI wx B0 u11 l1 ∧ Below w.heap.size w wx)
      case first =>
        go_region_with ((go_at_call 15; (with_reducible refine (hF4 _).mono ?_); rintro e w' ⟨rfl, rfl⟩))
        all_goals
          go_wp2_with fail
          go_meet
          have hput := WD.out.put p4 su HQ.out.2.2.1 (by omega)
          rw [GQ.out.2.2.2.2.1] at hput
          have hg := HG0.out
          have hbb := BW.out
          have how := OW.out.apart g0 p4 (.int .u64 (su : Int)) WD.out.gB
          exact ⟨by first | exact hput | exact hput.later (Below.drew (Below.refl _ _)), by first | exact how | exact how.later (Below.drew (Below.refl _ _)), by repeat (first | with_reducible assumption | with_reducible refine Below.drew ?_ | (with_reducible refine below_set1 (by omega) _ ?_))⟩
      obtain ⟨hwn, hon, hbn⟩ := hcut
      clear c0 c1 c2 c3 c4 c5 i1 i2 i3 i4 WD BW OW
      have WD := Lib.hid hwn
      have BW := Lib.hid hbn
      have OW := Lib.hid hon
      clear hwn hbn hon
      go_upto_region 20 with fail
      obtain ⟨c0, c1, c2, c3, c4, c5⟩ := WD.out.wd.cells
      have i1 : (0 : Int) ≤ (p5 : Int) := by omega
      have i2 : (p5 : Int) < (N : Int) := by have := HQ.out.2.2.2.1; omega
      have i3 := WD.out.wd.row.2.2.1 p5 HQ.out.2.2.2.1
      have i4 := WD.out.wd.row.2.2.2 p5
      go_cut [] from 101 to 107 (fun wx => WdB wx b0 1 10 g0 N R0 1 ra0 S0 sa0 GF (zerosS 1) (zerosS 1) B0 ∧ OwnI wx B0 u11 l1 ∧ Below w.heap.size w wx)
      case first =>
        go_region_with ((go_at_call 15; (with_reducible refine (hF5 _).mono ?_); rintro e w' ⟨rfl, rfl⟩))
        all_goals
          go_wp2_with fail
          go_meet
          have hput := WD.out.put p5 sv HQ.out.2.2.2.1 (by omega)
          rw [GQ.out.2.2.2.2.2.1] at hput
          have hg := HG0.out
          have hbb := BW.out
          have how := OW.out.apart g0 p5 (.int .u64 (sv : Int)) WD.out.gB
          exact ⟨by first | exact hput | exact hput.later (Below.drew (Below.refl _ _)), by first | exact how | exact how.later (Below.drew (Below.refl _ _)), by repeat (first | with_reducible assumption | with_reducible refine Below.drew ?_ | (with_reducible refine below_set1 (by omega) _ ?_))⟩
      obtain ⟨hwn, hon, hbn⟩ := hcut
      clear c0 c1 c2 c3 c4 c5 i1 i2 i3 i4 WD BW OW
      have WD := Lib.hid hwn
      have BW := Lib.hid hbn
      have OW := Lib.hid hon
      clear hwn hbn hon
      go_upto_region 21 with fail
      obtain ⟨c0, c1, c2, c3, c4, c5⟩ := WD.out.wd.cells
      have i1 : (0 : Int) ≤ (pi : Int) := by omega
      have i2 : (pi : Int) < (N : Int) := by have := HQ.out.2.2.2.2.1; omega
      have i3 := WD.out.wd.row.2.2.1 pi HQ.out.2.2.2.2.1
      have i4 := WD.out.wd.row.2.2.2 pi
      clear i3
      have i5 := HRW.out _ WD.out
      go_cut [] from 108 to 124 (fun wx => WdB wx b0 1 10 g0 N R0 1 ra0 S0 sa0 GH (zerosS 1) (zerosS 1) B0 ∧ OwnI wx B0 u11 l1 ∧ Below w.heap.size w wx)
      case first =>
        go_region_with ((go_at_call 18; (with_reducible refine (hIG _).mono ?_); rintro e w' ⟨rfl, rfl⟩))
        all_goals
          go_wp2_with fail
          go_meet
          have hput := WD.out.put pi h2 HQ.out.2.2.2.2.1 VQ.out.2.2.2
          rw [GQ.out.2.2.2.2.2.2.1] at hput
          have hg := HG0.out
          have hbb := BW.out
          have how := OW.out.apart g0 pi (.int .u64 (h2 : Int)) WD.out.gB
          exact ⟨by first | exact hput | exact hput.later (Below.drew (Below.refl _ _)), by first | exact how | exact how.later (Below.drew (Below.refl _ _)), by repeat (first | with_reducible assumption | with_reducible refine Below.drew ?_ | (with_reducible refine below_set1 (by omega) _ ?_))⟩
      obtain ⟨hwn, hon, hbn⟩ := hcut
      clear c0 c1 c2 c3 c4 c5 i1 i2 i5 i4 WD BW OW
      have WD := Lib.hid hwn
      have BW := Lib.hid hbn
      have OW := Lib.hid hon
      clear hwn hbn hon
      obtain ⟨mb, mo, hMe, _, hmc⟩ := (HM.out.later BW.out).2 (by have := KB.out.2.1; omega)
      subst hMe
      have x2 := hmc i (by have := KB.out.2.1; omega)
      have hsv : stayS es mf st r = (!(mf i) && (vx || (decide (su ≠ st) && decide (sv ≠ st)))) := by
        have hh := HV.out
        have e : r - 1 = i := by have := HR.out; omega
        unfold stayS
        rw [e, hh.1, hh.2.1, hh.2.2.1, hh.2.2.2]
      have HFU := Lib.hid (show (List.range' 1 r).filter (stayS es mf st) = l1 ++ if stayS es mf st r = true then [r] else [] by
        have h := filter_upto (stayS es mf st) i
        rw [HR.out, HL1.out] at h
        exact h)
      clear hmc
      cases hmf : mf i with
      | true =>
        rw [hmf] at x2
        have hsy : stayS es mf st r = false := by rw [hsv, hmf]; rfl
        go_upto_region 23 with fail
        clear x2
        obtain ⟨c0, c1, c2, c3, c4, c5⟩ := WD.out.wd.cells
        have i1 : (0 : Int) ≤ (pr : Int) := by omega
        have i2 : (pr : Int) < (N : Int) := by have := HQ.out.2.2.2.2.2; omega
        have i3 := WD.out.wd.row.2.2.1 pr HQ.out.2.2.2.2.2
        have i4 := WD.out.wd.row.2.2.2 pr
        go_cut [] from 129 to 134 (fun wx => WdB wx b0 1 10 g0 N R0 1 ra0 S0 sa0 GI (zerosS 1) (zerosS 1) B0 ∧ OwnI wx B0 u11 l1 ∧ Below w.heap.size w wx)
        case first =>
          go_region_with ((go_at_call 18; (with_reducible refine (hRG _).mono ?_); rintro e w' ⟨rfl, rfl⟩))
          all_goals
            go_wp2_with fail
            go_meet
            have hput := WD.out.put pr 1 HQ.out.2.2.2.2.2 (by decide)
            rw [GQ.out.2.2.2.2.2.2.2.1] at hput
            have hg := HG0.out
            have hbb := BW.out
            have how := OW.out.apart g0 pr (.int .u64 (1 : Int)) WD.out.gB
            exact ⟨by first | exact hput | exact hput.later (Below.drew (Below.refl _ _)), by first | exact how | exact how.later (Below.drew (Below.refl _ _)), by repeat (first | with_reducible assumption | with_reducible refine Below.drew ?_ | (with_reducible refine below_set1 (by omega) _ ?_))⟩
        obtain ⟨hwn, hon, hbn⟩ := hcut
        clear c0 c1 c2 c3 c4 c5 i1 i2 i3 i4 WD BW OW
        have WD := Lib.hid hwn
        have BW := Lib.hid hbn
        have OW := Lib.hid hon
        clear hwn hbn hon
        obtain ⟨mb2, mo2, hMe, _, hmc⟩ := (HM.out.later BW.out).2 (by have := KB.out.2.1; omega)
        cases hMe
        have x2 := hmc i (by have := KB.out.2.1; omega)
        rw [hmf] at x2
        clear hmc
        go_wp2_with fail
        go_roundw
        case rel => exact ⟨r, by have := HR.out; omega, by go_num, by rw [HFU.out, hsy, if_neg (by decide), List.append_nil]; exact OW.out, by rw [GQ.out.2.2.2.2.2.2.2.2.1 hmf]; exact WD.out, BW.out⟩
        case measure => have := HR.out; simp [intOf]; omega
      | false =>
        rw [hmf] at x2
        cases vx with
        | true =>
          have hsy : stayS es mf st r = true := by rw [hsv, hmf]; rfl
          obtain ⟨oa, ocap, hu, _, _, _⟩ := OW.out.form
          subst hu
          have HM9 : Hid (l1.length ≤ 900000) := Lib.hid (by have := List.length_filter_le (stayS es mf st) (List.range' 1 i); rw [HL1.out, List.length_range'] at this; have := KB.out.1; omega)
          have HOA : Hid (∀ o, OwnI (wc.alloc o) B0 (.slice oa l1.length ocap) l1) := Lib.hid (fun o => OW.out.later (al_below wc o))
          have HZ1 : Hid (∀ o, B0 ≤ (wc.alloc o).heap.size) := Lib.hid (fun o => by have := WD.out.le; have h3 := (al_below wc o).size; omega)
          have HGR : Hid (∀ o w9, (wc.alloc o).grownBy w9 (Value.slice oa l1.length ocap).ownBlock → WdB w9 b0 1 10 g0 N R0 1 ra0 S0 sa0 GH (zerosS 1) (zerosS 1) B0 ∧ Below w.heap.size w w9) := Lib.hid (fun o w9 hg9 => ⟨(WD.out.later (al_below wc o)).grown hg9 (fun k hk => (OW.out.lt k hk).1), (BW.out.trans ((al_below wc o).mono BW.out.size)).grown hg9 (by have := BW.out.size; have h3 := (al_below wc o).size; omega) (fun k hk => by have := (OW.out.lt k hk).1; have := HB0.out; omega)⟩)
          clear OW WD BW
          go_wp2_with (at_builtin; (refine wpList_appendI (by rfl) (.tmp 153) (.tmp 155) (by rfl) B0 (.slice oa l1.length ocap) l1 (by rfl) (HOA.out _) wc.heap.size 1 r (by rfl) (by go_simp) HM9.out (HZ1.out _) ?_); (intro v9 w9 hown9 hg9 hv9; have hgr := HGR.out _ _ hg9; have HOWN9 := Lib.hid hown9; have WD := Lib.hid hgr.1; have BW := Lib.hid hgr.2; clear hown9 hg9 hv9 hgr))
          go_roundw
          case rel => exact ⟨r, by have := HR.out; omega, by go_num, by rw [HFU.out, hsy, if_pos rfl]; exact HOWN9.out, by rw [GQ.out.2.2.2.2.2.2.2.2.2 hmf]; exact WD.out, BW.out⟩
          case measure => have := HR.out; simp [intOf]; omega
        | false =>
          by_cases h1 : su = st
          · have n1 : ((su : Int) != (st : Int)) = false := by rw [bne_eq_false_iff_eq]; omega
            have hsy : stayS es mf st r = false := by rw [hsv, hmf]; simp [h1]
            go_wp2_with fail
            go_roundw
            case rel => exact ⟨r, by have := HR.out; omega, by go_num, by rw [HFU.out, hsy, if_neg (by decide), List.append_nil]; exact OW.out, by rw [GQ.out.2.2.2.2.2.2.2.2.2 hmf]; exact WD.out, BW.out⟩
            case measure => have := HR.out; simp [intOf]; omega
          · have n1 : ((su : Int) != (st : Int)) = true := by rw [bne_iff_ne]; omega
            by_cases h2 : sv = st
            · have n2 : ((sv : Int) != (st : Int)) = false := by rw [bne_eq_false_iff_eq]; omega
              have hsy : stayS es mf st r = false := by rw [hsv, hmf]; simp [h2]
              go_wp2_with fail
              go_roundw
              case rel => exact ⟨r, by have := HR.out; omega, by go_num, by rw [HFU.out, hsy, if_neg (by decide), List.append_nil]; exact OW.out, by rw [GQ.out.2.2.2.2.2.2.2.2.2 hmf]; exact WD.out, BW.out⟩
              case measure => have := HR.out; simp [intOf]; omega
            · have n2 : ((sv : Int) != (st : Int)) = true := by rw [bne_iff_ne]; omega
              have hsy : stayS es mf st r = true := by rw [hsv, hmf]; simp [h1, h2]
              obtain ⟨oa, ocap, hu, _, _, _⟩ := OW.out.form
              subst hu
              have HM9 : Hid (l1.length ≤ 900000) := Lib.hid (by have := List.length_filter_le (stayS es mf st) (List.range' 1 i); rw [HL1.out, List.length_range'] at this; have := KB.out.1; omega)
              have HOA : Hid (∀ o, OwnI (wc.alloc o) B0 (.slice oa l1.length ocap) l1) := Lib.hid (fun o => OW.out.later (al_below wc o))
              have HZ1 : Hid (∀ o, B0 ≤ (wc.alloc o).heap.size) := Lib.hid (fun o => by have := WD.out.le; have h3 := (al_below wc o).size; omega)
              have HGR : Hid (∀ o w9, (wc.alloc o).grownBy w9 (Value.slice oa l1.length ocap).ownBlock → WdB w9 b0 1 10 g0 N R0 1 ra0 S0 sa0 GH (zerosS 1) (zerosS 1) B0 ∧ Below w.heap.size w w9) := Lib.hid (fun o w9 hg9 => ⟨(WD.out.later (al_below wc o)).grown hg9 (fun k hk => (OW.out.lt k hk).1), (BW.out.trans ((al_below wc o).mono BW.out.size)).grown hg9 (by have := BW.out.size; have h3 := (al_below wc o).size; omega) (fun k hk => by have := (OW.out.lt k hk).1; have := HB0.out; omega)⟩)
              clear OW WD BW
              go_wp2_with (at_builtin; (refine wpList_appendI (by rfl) (.tmp 153) (.tmp 155) (by rfl) B0 (.slice oa l1.length ocap) l1 (by rfl) (HOA.out _) wc.heap.size 1 r (by rfl) (by go_simp) HM9.out (HZ1.out _) ?_); (intro v9 w9 hown9 hg9 hv9; have hgr := HGR.out _ _ hg9; have HOWN9 := Lib.hid hown9; have WD := Lib.hid hgr.1; have BW := Lib.hid hgr.2; clear hown9 hg9 hv9 hgr))
              go_roundw
              case rel => exact ⟨r, by have := HR.out; omega, by go_num, by rw [HFU.out, hsy, if_pos rfl]; exact HOWN9.out, by rw [GQ.out.2.2.2.2.2.2.2.2.2 hmf]; exact WD.out, BW.out⟩
              case measure => have := HR.out; simp [intOf]; omega
    · have hin' : i = n := by have := HIN.out; omega
      subst hin'
      have d3 : decide ((i : Int) < (i : Int)) = false := by simp
      have d3n : decide (i < i) = false := by simp
      obtain ⟨d, G9, lF, j, x', hd0, hj, hrun, hsw⟩ := HCON.out
      have hn10 := KB.out.1
      have hst4 : st < 4 := by have := KB.out.2.2.2; omega
      have hks : (k : Int) % 4 = (st : Int) := by have := KB.out.2.2.2; omega
      have hkt : (k : Int).tmod 4 = (st : Int) := by rw [Int.tmod_eq_emod_of_nonneg (by omega)]; exact hks
      have HAL : ∀ x, Hid (Tab x) → Hid (AtW x (some ⟨g0, 0, none⟩) N (swG es mf i)) → Hid (StmsAt x R0 1 (zerosS 1)) → Hid (StmsAt x S0 1 (zerosS 1)) → Calls Tryz.prog 14 #[.agg #[.int .i64 1, .int .i64 10, .slice (some ⟨g0, 0, none⟩) N N, .int .u64 0, .slice R0 1 ra0, .slice S0 1 sa0], .int .i64 0, .agg #[.int .i64 10, .int .i64 0, .int .i64 0, .int .u64 (st : Int)], .int .i64 400] x (AloneL x 1 10 (some ⟨g0, 0, none⟩) N R0 S0 1 G9 lF (zerosS 1) 0 false 0 0) := by
        intro x hT h1 h2 h3
        have h := lAloneN 1 (by decide) 0 (by decide) 10 10 0 0 st (by omega) ⟨fun h => absurd h (by decide), fun h => absurd h (by decide), fun h => absurd h (by decide)⟩ 400 (by decide) N (by have := HNN.out; omega) (by decide) (swG es mf i) (zerosS 1) (zerosS 1) d (G9, lF) j hrun hj (some ⟨g0, 0, none⟩) N R0 ra0 S0 sa0 x hT h1 h2 h3
        rw [show lErr 10 d = 0 by unfold lErr; rw [if_pos (.inr rfl), if_neg hd0], show lIs 10 d = false from rfl, show lN 10 d = 0 from rfl, show lW 10 d = 0 from rfl] at h
        exact h
      have hhead : refN (G9 0) = x' := by
        have hh : G9 0 = linkN x' false := hsw.head
        rw [hh]
        exact ref_link false hsw.line.lt
      have hmemr : ∀ r, 1 ≤ r → r ≤ i → r ∈ List.range' 1 i := fun r h1 h2 => by rw [List.mem_range'_1]; omega
      have HFL : ∀ r, 1 ≤ r → r ≤ i → hasF (G9 (fieldN 1 r 2)) 2 = !(stayS es mf st r) := fun r h1 h2 => swept_has hsw (hmemr r h1 h2)
      have HLK : ∀ A9 k9 x, Hid (AtW x A9 N G9) → Calls Tryz.prog 16 #[.agg #[.int .i64 1, .int .i64 10, .slice A9 N k9]] x (LinkPost x ((List.range' 1 i).filter (stayS es mf st))) := fun A9 k9 x h => linked_at 1 10 (by decide) (by decide) A9 N k9 (by rw [HNN.out]; rfl) G9 _ (by rw [hhead]; exact hsw.line) (fun a ha => by have := List.mem_range'_1.1 (List.mem_filter.1 ha).1; omega) (by have := List.length_filter_le (stayS es mf st) (List.range' 1 i); rw [List.length_range'] at this; omega) x h
      have HAT : ∀ r, 1 ≤ r → r ≤ i → ((((List.range' 1 i).filter (stayS es mf st))[cntS (stayS es mf st) r]? = some r) ↔ stayS es mf st r = true) := fun r h1 h2 => filter_at (stayS es mf st) h1 h2
      have HEND : cntS (stayS es mf st) (i + 1) = ((List.range' 1 i).filter (stayS es mf st)).length := filter_all _ _
      obtain ⟨q, hq⟩ : ∃ q, stayS es mf st = q := ⟨_, rfl⟩
      have HCT : ∀ r, 1 ≤ r → cntS q (r + 1) = cntS q r + if q r = true then 1 else 0 := fun r h => cntS_step q h
      have HC1 : cntS q 1 = 0 := rfl
      rw [hq] at HFL HLK HAT HEND OW
      obtain ⟨l, hl⟩ : ∃ l, (List.range' 1 i).filter q = l := ⟨_, rfl⟩
      rw [hl] at HLK HAT HEND OW
      have HWF := Lib.hid (And.intro HFL (And.intro HAT (And.intro HEND (And.intro HCT hn10))))
      have HTW := Tab.later HTab BW.out
      clear hrun hsw hd0 hj hhead hmemr HFL HAT HEND HCT hq hl LA HCON hst4 hn10 HTab
      go_upto_region 26 with fail
      obtain ⟨c0, c1, c2, c3, c4, c5⟩ := WD.out.wd.cells
      go_wp2_with fail
      (with_reducible refine (HAL _ HTW (Lib.hid WD.out.wd.row.at_) (Lib.hid WD.out.wd.s0) (Lib.hid WD.out.wd.s1)).mono ?_)
      clear HAL HTW c0 c1 c2 c3 c4 c5
      rintro e w2 ⟨A1, k1, R1, ra1, S1, sa1, rfl, ha, hs0, hs1, hb, _⟩
      go_upto_region 27 with fail
      have hbx : Below w2.heap.size w2 ((w2.alloc (.cells #[.int .i64 1, .int .i64 10, .slice A1 N k1, .int .u64 0, .slice R1 1 ra1, .slice S1 1 sa1] 33)).alloc (.cells #[.int .i64 0, .bool false, .int .i64 0, .int .u64 0, .slice none 0 0] 38)) := below_pair _ _ _
      have V1 := Lib.hid ((VarAt.made w2 #[.int .i64 1, .int .i64 10, .slice A1 N k1, .int .u64 0, .slice R1 1 ra1, .slice S1 1 sa1] 33).below (al_below _ (.cells #[.int .i64 0, .bool false, .int .i64 0, .int .u64 0, .slice none 0 0] 38)))
      have O1 := Lib.hid (VarAt.made1 w2 (.cells #[.int .i64 1, .int .i64 10, .slice A1 N k1, .int .u64 0, .slice R1 1 ra1, .slice S1 1 sa1] 33) #[.int .i64 0, .bool false, .int .i64 0, .int .u64 0, .slice none 0 0] 38)
      generalize (w2.alloc (.cells #[.int .i64 1, .int .i64 10, .slice A1 N k1, .int .u64 0, .slice R1 1 ra1, .slice S1 1 sa1] 33)).alloc (.cells #[.int .i64 0, .bool false, .int .i64 0, .int .u64 0, .slice none 0 0] 38) = x2 at hbx V1 O1 ⊢
      have hbn := hb.trans (hbx.mono hb.size)
      have A1' := Lib.hid (ha.later hbx)
      have OWn := Lib.hid (OW.out.later hbn); clear OW; have OW := OWn; clear OWn
      have BWn := Lib.hid (BW.out.trans (hbn.mono BW.out.size)); clear BW; have BW := BWn; clear BWn
      generalize w2.heap.size = b17 at V1 O1 ⊢
      clear ha hs0 hs1 hb hbx hbn WD
      obtain ⟨_, ⟨c0, c1, c2, c3, c4, c5⟩, _⟩ := V1.out.six
      obtain ⟨_, ⟨o0, o1, o2, o3, o4⟩, _⟩ := O1.out.five
      go_wp2_with fail
      (with_reducible refine (HLK _ _ _ A1').mono ?_)
      clear HLK c0 c1 c2 c3 c4 c5 o0 o1 o2 o3 o4 O1
      rintro e w3 ⟨lv, rfl, hlv, hb⟩
      have A1n := Lib.hid (A1'.out.later hb); clear A1'; have A1' := A1n; clear A1n
      have V1n := Lib.hid (V1.out.below hb); clear V1; have V1 := V1n; clear V1n
      have OWn := Lib.hid (OW.out.later hb); clear OW; have OW := OWn; clear OWn
      have BWn := Lib.hid (BW.out.trans (hb.mono BW.out.size)); clear BW; have BW := BWn; clear BWn
      clear hb
      obtain ⟨la, lcap, rfl, _, _, hlc⟩ := hlv.form
      obtain ⟨sa, scap, rfl, _, _, hsc⟩ := OW.out.form
      obtain ⟨ab, ao, hAe, _, _⟩ := A1'.out.2 (by have := HNN.out; omega)
      subst hAe
      have HS : Hid (SwRel w b17 [.int .i64 1, .int .i64 10, .slice (some ⟨ab, ao, none⟩) N k1, .int .u64 0, .slice R1 1 ra1, .slice S1 1 sa1] (some ⟨ab, ao, none⟩) N G9 la sa l w3) := Lib.hid ⟨BW.out, V1.out, A1'.out, fun j y h => by obtain ⟨g, e1, _, _, e2⟩ := hlc j y h; exact ⟨g, e1, e2⟩, fun j y h => by obtain ⟨g, e1, _, _, e2⟩ := hsc j y h; exact ⟨g, e1, e2⟩⟩
      clear hlc hsc hlv OW BW V1 A1'
      obtain ⟨nl, hnl⟩ : ∃ x, l.length = x := ⟨_, rfl⟩
      have HNL := Lib.hid hnl
      rw [hnl]
      clear hnl
      have dl : ((nl : Int) != (nl : Int)) = false := by simp
      go_wp2_with fail
      go_loopw [21, 22, 23, 24] (fun v21 v22 v23 v24 wy => ∃ r : Nat, 1 ≤ r ∧ r ≤ i + 1 ∧ v21 = .int .i64 ((cntS q r : Nat) : Int) ∧ v22 = .int .i64 (r : Int) ∧ SwRel w b17 [.int .i64 1, .int .i64 10, .slice (some ⟨ab, ao, none⟩) N k1, .int .u64 0, .slice R1 1 ra1, .slice S1 1 sa1] (some ⟨ab, ao, none⟩) N G9 la sa l wy) (fun _ v22 _ _ _ => i + 1 - (intOf v22).toNat)
      case atStart => exact ⟨1, Nat.le_refl _, by omega, rfl, rfl, HS.out⟩
      case round =>
        clear HS
        obtain ⟨r, hr1, hri, rfl, rfl, hrel⟩ := hrel
        have HR := Lib.hid hrel
        have HRI := Lib.hid (And.intro hr1 hri)
        obtain ⟨_, ⟨c0, c1, c2, c3, c4, c5⟩, _⟩ := hrel.var.six
        by_cases hle : r ≤ i
        · have d4 : decide ((r : Int) ≤ (i : Int)) = true := by rw [decide_eq_true_iff]; omega
          have d4n : decide (r ≤ i) = true := by rw [decide_eq_true_iff]; omega
          have hfl := HWF.out.1 r hr1 hle
          have hat := HWF.out.2.1 r hr1 hle
          have hct := HWF.out.2.2.2.1 r hr1
          have hi10 := HWF.out.2.2.2.2
          have HF : ∀ w, Calls Tryz.prog 15 #[.int .i64 1, .int .i64 (r : Int), .int .i64 2] w fun e w' => e = .returned (.int .i64 (fieldN 1 r 2 : Nat)) ∧ w = w' := fun w => refField_any 1 r 2 (by decide) (by omega) (by omega) (by decide) w
          have hpN : fieldN 1 r 2 < N := by have := HNN.out; unfold fieldN; omega
          obtain ⟨b, o, e, _, y0⟩ := hrel.row.2 (by omega)
          cases e
          have z0 := y0 _ hpN
          have hGl := hrel.row.1 (fieldN 1 r 2)
          obtain ⟨p, hp⟩ : ∃ x, fieldN 1 r 2 = x := ⟨_, rfl⟩
          rw [hp] at hfl HF hpN z0 hGl
          obtain ⟨f, hf⟩ : ∃ x, G9 p = x := ⟨_, rfl⟩
          rw [hf] at hfl z0 hGl
          have j1 : (0 : Int) ≤ (p : Int) := by omega
          have j2 : (p : Int) < (N : Int) := by omega
          have HH : ∀ w, Calls Tryz.prog 19 #[.int .u64 (f : Int), .int .i64 2] w fun e w' => e = .returned (.bool (!(q r))) ∧ w = w' := fun w => by rw [← hfl]; exact refHas_any f 2 hGl w
          obtain ⟨ct, hct0⟩ : ∃ x, cntS q r = x := ⟨_, rfl⟩
          rw [hct0] at hct hat ⊢
          have hla := hrel.la_ ct
          have hsa := hrel.sa_ ct
          have hr18 : IntKind.i64.wrap ((r : Int) + 1) = ((r + 1 : Nat) : Int) := by rw [IntKind.wrap_i64]; omega
          clear y0 hrel hp hf hct0 hfl
          go_upto_region 36 with fail
          go_quiet (first | (go_at_call 15; with_reducible exact quiet_call (HF _)))
          cases hqr : q r with
          | true =>
            rw [hqr] at hct HH
            rw [if_pos rfl] at hct
            rw [Bool.not_true] at HH
            have hx := hat.2 hqr
            obtain ⟨gl, e1, x1⟩ := hla r hx
            obtain ⟨gs, e2, x2⟩ := hsa r hx
            subst e1
            subst e2
            have hlt : ct < nl := by rw [← HNL.out]; exact (List.getElem?_eq_some_iff.1 hx).1
            have k1 : decide ((ct : Int) < (nl : Int)) = true := by rw [decide_eq_true_iff]; omega
            have k1n : decide (ct < nl) = true := by rw [decide_eq_true_iff]; omega
            have k2 : (0 : Int) ≤ (ct : Int) := by omega
            have k3 : (ct : Int) < (nl : Int) := by omega
            have k4 : ((r : Int) == (r : Int)) = true := by simp
            have hnl10 : nl < 1000000 := by
              have hh := hx
              have h1 := HWF.out.2.2.1
              rw [HNL.out] at h1
              have := HWF.out.2.2.2.2
              have h2 : cntS q (i + 1) ≤ i := by unfold cntS; have := List.length_filter_le q (List.range' 1 (i + 1 - 1)); rw [List.length_range'] at this; omega
              omega
            have k5 : IntKind.i64.wrap ((ct : Int) + 1) = ((ct + 1 : Nat) : Int) := by rw [IntKind.wrap_i64]; omega
            clear hx hla hsa hat
            go_wp2_with (go_at_call 19; (with_reducible refine (HH _).mono ?_); rintro e w' ⟨rfl, rfl⟩)
            go_roundw
            case rel => exact ⟨r + 1, by omega, by omega, by rw [hct]; first | rfl | go_num, by go_num, HR.out.drewN nq⟩
            case measure => simp [intOf]; omega
          | false =>
            rw [hqr] at hct HH
            rw [if_neg (by decide), Nat.add_zero] at hct
            rw [Bool.not_false] at HH
            by_cases hlt : ct < nl
            · obtain ⟨y, hy⟩ : ∃ y, l[ct]? = some y := ⟨_, List.getElem?_eq_getElem (by rw [HNL.out]; exact hlt)⟩
              have hyr : y ≠ r := fun e => by
                rw [e] at hy
                have := hat.1 hy
                rw [hqr] at this
                cases this
              obtain ⟨gl, e1, x1⟩ := hla y hy
              subst e1
              have k1 : decide ((ct : Int) < (nl : Int)) = true := by rw [decide_eq_true_iff]; omega
              have k1n : decide (ct < nl) = true := by rw [decide_eq_true_iff]; omega
              have k2 : (0 : Int) ≤ (ct : Int) := by omega
              have k3 : (ct : Int) < (nl : Int) := by omega
              have k4 : ((y : Int) == (r : Int)) = false := by rw [beq_eq_false_iff_ne]; omega
              clear hy hla hsa hat
              go_wp2_with (go_at_call 19; (with_reducible refine (HH _).mono ?_); rintro e w' ⟨rfl, rfl⟩)
              go_roundw
              case rel => exact ⟨r + 1, by omega, by omega, by rw [hct]; first | rfl | go_num, by go_num, HR.out.drewN nq⟩
              case measure => simp [intOf]; omega
            · have k1 : decide ((ct : Int) < (nl : Int)) = false := by rw [decide_eq_false_iff_not]; omega
              have k1n : decide (ct < nl) = false := by rw [decide_eq_false_iff_not]; omega
              clear hla hsa hat
              go_wp2_with (go_at_call 19; (with_reducible refine (HH _).mono ?_); rintro e w' ⟨rfl, rfl⟩)
              go_roundw
              case rel => exact ⟨r + 1, by omega, by omega, by rw [hct]; first | rfl | go_num, by go_num, HR.out.drewN nq⟩
              case measure => simp [intOf]; omega
        · have hr2 : r = i + 1 := by omega
          subst hr2
          have d4 : decide (((i + 1 : Nat) : Int) ≤ (i : Int)) = false := by rw [decide_eq_false_iff_not]; omega
          have hend := HWF.out.2.2.1
          rw [HNL.out] at hend
          rw [hend]
          have dn : ((nl : Int) == (nl : Int)) = true := by simp
          go_wp2_with fail
          go_ret
          exact ⟨rfl, HR.out.below⟩
section
set_option maxRecDepth 100000
set_option maxHeartbeats 2000000
variable {H : Type} {enc : TypeId × Value → H} {w : World}
theorem open_a {v : Value} {d : DataW H} {ps : List MemPlace} {base : Nat} (hval : Value.okWide Tryz.prog w .any base 22 v) (h : DataW.Trod enc Tryz.prog w 0 (fun _ => true) true 22 v d ps) (hs : Sized Tryz.prog 22 d) (hlt : ∀ z ∈ ps, z.block < w.heap.size) :
    ∃ (aA : Option Addr) (aL aC : Nat) (ax : List Nat), v = .slice aA aL aC ∧ (aL ≤ aC ∧ aL ≤ 140737488355328 ∧ AtB w aA aL ax) := by
  obtain ⟨a0, len, cap, rfl⟩ := okWide_slice Tryz.underlying22 hval
  obtain ⟨fuel, hf0⟩ := h
  have hf : DataW.trod enc Tryz.prog w 0 (fun _ => true) true fuel 22 [.slice a0 len cap] = some (d, ps) := hf0
  obtain ⟨aA, aL, aC, ax, e0, ha⟩ := leaf_bytes hf hs hlt
  cases e0
  exact ⟨_, _, _, _, rfl, ha⟩
theorem open_b {v : Value} {d : DataW H} {ps : List MemPlace} {base : Nat} (hval : Value.okWide Tryz.prog w .any base 47 v) (h : DataW.Trod enc Tryz.prog w 0 (fun _ => true) true 47 v d ps) (hs : Sized Tryz.prog 47 d) (hlt : ∀ z ∈ ps, z.block < w.heap.size) :
    ∃ (bA : Option Addr) (bL bC : Nat) (bf : Nat → Bool), v = .slice bA bL bC ∧ (bL ≤ bC ∧ BlsAt w bA bL bf) := by
  obtain ⟨a0, len, cap, rfl⟩ := okWide_slice Tryz.underlying47 hval
  obtain ⟨fuel, hf0⟩ := h
  have hf : DataW.trod enc Tryz.prog w 0 (fun _ => true) true fuel 47 [.slice a0 len cap] = some (d, ps) := hf0
  obtain ⟨bA, bL, bC, bf, e0, hb⟩ := leaf_blsat hf hs hlt
  cases e0
  exact ⟨_, _, _, _, rfl, hb⟩
theorem open_k {v : Value} {d : DataW H} {ps : List MemPlace} {base : Nat} (hval : Value.okWide Tryz.prog w .any base 5 v) (h : DataW.Trod enc Tryz.prog w 0 (fun _ => true) true 5 v d ps) (hs : Sized Tryz.prog 5 d) (hlt : ∀ z ∈ ps, z.block < w.heap.size) :
    ∃ (k : Nat), v = .int .u8 (k : Int) ∧ k < 256 := by
  obtain ⟨a0, rfl⟩ := okWide_int Tryz.underlying5 hval
  obtain ⟨fuel, hf0⟩ := h
  have hf : DataW.trod enc Tryz.prog w 0 (fun _ => true) true fuel 5 [.int .u8 a0] = some (d, ps) := hf0
  obtain ⟨k, e0, hk⟩ := leaf_u8 Tryz.underlying5 hf
  cases e0
  exact ⟨_, rfl, hk⟩
end
set_option maxRecDepth 100000 in
set_option maxHeartbeats 8000000 in
theorem lifted (os : Os) (started : os.Started) (H : Type) (enc : TypeId × Value → H) :
    ReturnsInHanded {} Tryz.checked os 4 .any (fun w args => (Rows.listSweptSpec.pre enc Tryz.prog Tryz.f4 [] false w args ∧ laidMetH Tryz.prog laidHalf w) ∧ sizedMet enc Tryz.prog Tryz.f4 (OpenSpec.ofChange Rows.listSweptSpec) false w args)
      (Rows.listSweptSpec.post enc Tryz.prog Tryz.f4 false true false false) := by
  refine law_lifted_laid (C := Tryz.checked) (X := fun w _ => laidMetH Tryz.prog laidHalf w) (fun _ _ _ hh h => h.of_heap hh) own started (by kernel_rfl) Tryz.func4
    (ChangeSpec.witness_shaped (enc := enc) (C := Tryz.checked) (os := os) (X := fun w _ => laidMetH Tryz.prog laidHalf w) false (World.doorLaid Tryz.prog 400 os) #[.slice none 0 0, .slice none 0 0, .int .u8 0] 8 rfl (World.shaped_of_RefB (by kernel_rfl) (by kernel_rfl)) (by kernel_rfl) (by kernel_rfl) (by kernel_rfl) (door_met os _))
    (by kernel_rfl) (by kernel_rfl) Tryz.underlying4 rfl (by kernel_rfl) ?_
  intro W base args ds before hval hA hwt hlt hL
  have hTab := Lib.hid (tab_of_laid hL)
  have hA' : DataW.TrodAll enc Tryz.prog W 0 (fun _ => true) true Tryz.f4.params.toList args.toList ds before := hA
  have hval' : ∀ (j : Nat) t v, Tryz.f4.params[j]? = some t → args[j]? = some v → Value.okWide Tryz.prog W .any base t v := hval
  have hwt' : (DataW.weightsEach Tryz.prog Tryz.f4.params.toList ds).all (· ≤ reachBytes) = true := hwt
  rw [Tryz.params4] at hA' hval' hwt'
  obtain ⟨v0, vs0, d0, ds0, p0, q0, hargs, rfl, rfl, k0, r0⟩ := trodAll_cons hA'
  obtain ⟨v1, vs1, d1, ds1, p1, q1, rfl, rfl, rfl, k1, r1⟩ := trodAll_cons r0
  obtain ⟨v2, vs2, d2, ds2, p2, q2, rfl, rfl, rfl, k2, r2⟩ := trodAll_cons r1
  obtain ⟨rfl, rfl, rfl⟩ := trodAll_nil r2
  obtain rfl : args = #[v0, v1, v2] := by cases args; simp_all
  obtain ⟨aA, aL, aC, ax, rfl, ha⟩ := open_a (hval' 0 22 v0 rfl rfl) k0 (sized_of hwt' (j := 0) (t := 22) rfl rfl) (fun x hx => hlt x (by simp [hx]))
  obtain ⟨bA, bL, bC, bf, rfl, hb⟩ := open_b (hval' 1 47 v1 rfl rfl) k1 (sized_of hwt' (j := 1) (t := 47) rfl rfl) (fun x hx => hlt x (by simp [hx]))
  obtain ⟨k, rfl, hk⟩ := open_k (hval' 2 5 v2 rfl rfl) k2 (sized_of hwt' (j := 2) (t := 5) rfl rfl) (fun x hx => hlt x (by simp [hx]))
  refine ⟨rfl, ?_⟩
  obtain ⟨hac, hal, haat⟩ := ha
  obtain ⟨hbc, hbat⟩ := hb
  by_cases hn : 10 < aL
  · exact walkLong aA aL aC ax bA bL bC bf k hn W hTab (Lib.hid haat) (Lib.hid hbat)
  by_cases hm : bL < aL
  · exact walkFew aA aL aC ax bA bL bC bf k (by omega) hm W hTab (Lib.hid haat) (Lib.hid hbat)
  exact walkMain aA aL aC ax bA bL bC bf k (by omega) (by omega) hk W hTab (Lib.hid haat) (Lib.hid hbat)
theorem over : Rows.listSweptRow.holds Tryz.pinned (OpenSpec.ofChange Rows.listSweptSpec) :=
  OpenClaim.holds_of_wide 4 Tryz.f4 rfl rfl rfl rfl rfl rfl rfl ⟨rfl, rfl, rfl, rfl, rfl⟩ rfl rfl rfl rfl rfl (by kernel_rfl) Tryz.func4 (by kernel_rfl)
    (of_decide_eq_true (by kernel_rfl)) (by unfold Func.isWrapper; first | (rw [if_pos (by decide +kernel)]; kernel_rfl) | (rw [if_neg (by decide +kernel)]; exact ⟨rfl, rfl⟩))
    (fun os started H enc _ => lifted os started H enc)
theorem proved : Rows.ListSweptCardSaid :=
  Claim7.holds_tied_plain_at .later [] [.data] true (true, "a3f0f31a54d84e334abdb6afb94ff2979c5f8ad5e3892efc7c397a8c2172375d") true
    over (fun _ h => by cases h) (by kernel_rfl) (fun _ h => by cases h) listSwept_row_tie rfl ⟨rfl, rfl⟩ (by kernel_rfl) rfl
    (fun f fn hf hfn => by
      obtain rfl : f = 4 := Option.some.inj ((show Tryz.prog.funcNamed "weald/wealdlaw15.ListSwept" = some 4 by kernel_rfl).symm.trans hf) |>.symm
      obtain rfl : fn = Tryz.f4 := (Option.some.inj (Tryz.func4.symm.trans hfn)).symm
      exact ⟨by kernel_rfl, fun j t ht => by
        rw [Tryz.params4] at ht
        have hm : t ∈ [22, 47, 5] := by simpa using Array.mem_of_getElem? ht
        have hall : ([22, 47, 5].all fun u => !Tryz.prog.wantsStandIn u) = true := by kernel_rfl
        exact (show Tryz.prog.wantsStandIn t = false by simpa using List.all_eq_true.1 hall t hm)⟩)
    (by kernel_rfl)
#print axioms proved
end Go.Proofs.YtibpfkcackdbgaaGreatDoor.listSwept
