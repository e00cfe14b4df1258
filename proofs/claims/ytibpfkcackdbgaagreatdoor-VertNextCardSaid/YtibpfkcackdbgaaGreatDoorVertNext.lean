/- VertNext -/
import Derived.Test.YtibpfkcackdbgaaGreatDoorVrtC
import Derived.Test.YtibpfkcackdbgaaGreatDoorVrtB
import Derived.Test.YtibpfkcackdbgaaGreatDoorVrtA
import Derived.Test.YtibpfkcackdbgaaGreatDoorPlyLeaf
import Derived.Test.YtibpfkcackdbgaaGreatDoorCards
import Derived.Test.YtibpfkcackdbgaaGreatDoorTie
import Derived.Test.YtibpfkcackdbgaaGreatDoorLaw
import Derived.Test.YtibpfkcackdbgaaGreatDoorFields
import Derived.Deep.Cut
import Derived.Deep.CutRange
namespace Go.Proofs.YtibpfkcackdbgaaGreatDoor.vertNext
open Go.ChangeShapes Go.WideShapes Go.ChangeAt Go.RowKit Go.Deep Go.BigFrame
set_option linter.unusedVariables false
theorem own : ownKnob Tryz.prog.godebug = none := by kernel_rfl
abbrev laidHalf : List (String × DataW Unit) := [("weald/crc.half", Rows.laid_weald_crc_half)]
theorem door_met (os : Os) (args : Array Value) : laidMetH Tryz.prog laidHalf ((World.doorLaid Tryz.prog 400 os).forCall (fun _ _ => 0) ⟨#[], args, []⟩).memory :=
 laidMetH_of_parts3 (fuel := 8) (laidMet_of_run' 8 (by kernel_rfl) (by kernel_rfl)) (by kernel_rfl) (by kernel_rfl)
theorem varFour {w : World} {b : Nat} {v0 v1 v2 v3 : Value} (h : VarAt w b [v0, v1, v2, v3]) : w.cell? ⟨b, 0, none⟩ = some v0 ∧ w.cell? ⟨b, 1, none⟩ = some v1 ∧ w.cell? ⟨b, 2, none⟩ = some v2 ∧ w.cell? ⟨b, 3, none⟩ = some v3 := ⟨h.2.1 0 _ rfl, h.2.1 1 _ rfl, h.2.1 2 _ rfl, h.2.1 3 _ rfl⟩
set_option maxHeartbeats 1000000 in
theorem outsI_same (er : Int) (oi : Bool) (N S : Int) (w : World) : Calls Tryz.prog 26 #[.agg #[.int .i64 er, .bool oi, .int .i64 N, .int .u64 S, .slice none 0 0], .agg #[.int .i64 er, .bool oi, .int .i64 N, .int .u64 S, .slice none 0 0]] w (Kept w (.bool true)) := by
 have hoo : (oi != oi) = false := by simp
 have hoe : (oi == oi) = true := by simp
 go_enter Tryz.func26, Tryz.ntmps26
 go_wp2_with fail
 go_loopw [5] (fun i wr => i = .int .i64 0 ∧ wr.cell? ⟨w.heap.size, 4, none⟩ = some (.slice none 0 0) ∧ Below w.heap.size w wr) (fun _ _ => 0)
 case atStart => exact ⟨rfl, by go_simp, belA⟩
 case round =>
  obtain ⟨rfl, hc, hb⟩ := hrel
  have HB := Lib.hid hb
  clear hb
  go_wp2_with fail
  go_ret
  exact ⟨rfl, HB.out⟩
theorem dims_any (t c : Int) (w : World) : Calls Tryz.prog 29 #[.int .i64 t, .int .i64 c] w fun e w' => e = .returned (.bool (mayB t c)) ∧ w = w' := by
 by_cases h1 : 1 ≤ t
 case neg =>
  have e : mayB t c = false := by unfold mayB; rw [decide_eq_false_iff_not]; omega
  have d1 : decide (1 ≤ t) = false := decide_eq_false h1
  rw [e]
  clear e h1
  go_enter Tryz.func29, Tryz.ntmps29
  go_wp2_with fail
  go_ret
  exact ⟨rfl, rfl⟩
 by_cases h2 : t ≤ 64
 case neg =>
  have e : mayB t c = false := by unfold mayB; rw [decide_eq_false_iff_not]; omega
  have d1 : decide (1 ≤ t) = true := decide_eq_true h1
  have d2 : decide (t ≤ 64) = false := decide_eq_false h2
  rw [e]
  clear e h1 h2
  go_enter Tryz.func29, Tryz.ntmps29
  go_wp2_with fail
  go_ret
  exact ⟨rfl, rfl⟩
 by_cases h3 : 0 ≤ c
 case neg =>
  have e : mayB t c = false := by unfold mayB; rw [decide_eq_false_iff_not]; omega
  have d1 : decide (1 ≤ t) = true := decide_eq_true h1
  have d2 : decide (t ≤ 64) = true := decide_eq_true h2
  have d3 : decide (0 ≤ c) = false := decide_eq_false h3
  rw [e]
  clear e h1 h2 h3
  go_enter Tryz.func29, Tryz.ntmps29
  go_wp2_with fail
  go_ret
  exact ⟨rfl, rfl⟩
 have e : mayB t c = decide (c ≤ 65536) := by
  by_cases h4 : c ≤ 65536
  ·rw [decide_eq_true h4]; unfold mayB; rw [decide_eq_true_iff]; omega
  ·rw [decide_eq_false h4]; unfold mayB; rw [decide_eq_false_iff_not]; omega
 have d1 : decide (1 ≤ t) = true := decide_eq_true h1
 have d2 : decide (t ≤ 64) = true := decide_eq_true h2
 have d3 : decide (0 ≤ c) = true := decide_eq_true h3
 rw [e]
 generalize hb : decide (c ≤ 65536) = b
 clear e h1 h2 h3
 go_enter Tryz.func29, Tryz.ntmps29
 go_wp2_with fail
 go_ret
 exact ⟨ret_bool' (by rw [← hb]), rfl⟩
set_option maxRecDepth 100000 in
set_option maxHeartbeats 8000000 in
theorem walkA (t c me k u v : Int) (x : Nat) (A : Option Addr) (n cap : Nat) (log : List Res) (hm : mayB t c = false) (w : World) (HTab : Hid (Tab w)) (HL : Hid (LogAt w A n log)) :
  Calls Tryz.prog 6 #[.agg #[.int .i64 t, .int .i64 c, .int .i64 me, .int .i64 k, .int .i64 u, .int .i64 v, .int .u64 (x : Int), .slice A n cap]] w fun e w' => e = .returned (.bool true) ∧ Below w.heap.size w w' := by
 have HDM := fun w => dims_any t c w
 rw [hm] at HDM
 go_enter Tryz.func6, Tryz.ntmps6
 go_wp2_with fail
 (with_reducible refine (vrtShown _ (Tab.later HTab (below_pair _ _ _))).mono ?_)
 rintro e w1 ⟨rfl, hb⟩
 have hb0 := below_pair w (.cells #[.int .i64 t, .int .i64 c, .int .i64 me, .int .i64 k, .int .i64 u, .int .i64 v, .int .u64 (x : Int), .slice A n cap] 67) (.cells #[.int .i64 k, .int .i64 u, .int .i64 v, .int .u64 (x : Int)] 42)
 have VO := Lib.hid ((VarAt.made1 w (.cells #[.int .i64 t, .int .i64 c, .int .i64 me, .int .i64 k, .int .i64 u, .int .i64 v, .int .u64 (x : Int), .slice A n cap] 67) #[.int .i64 k, .int .i64 u, .int .i64 v, .int .u64 (x : Int)] 42).below hb)
 have hbw : Below w.heap.size w w1 := hb0.trans (hb.mono hb0.size)
 have HLn := Lib.hid (HL.out.later hbw); clear HL; have HL := HLn; clear HLn
 have HTn := Tab.later HTab hbw; clear HTab; have HTab := HTn; clear HTn
 have BB := Lib.hid hbw
 clear hb hbw hb0
 generalize w.heap.size + 1 = bo at VO ⊢
 obtain ⟨_, o0, o1, o2, o3⟩ : bo < w1.heap.size ∧ w1.cell? ⟨bo, 0, none⟩ = some (.int .i64 k) ∧ w1.cell? ⟨bo, 1, none⟩ = some (.int .i64 u) ∧ w1.cell? ⟨bo, 2, none⟩ = some (.int .i64 v) ∧ w1.cell? ⟨bo, 3, none⟩ = some (.int .u64 (x : Int)) := ⟨VO.out.1, VO.out.2.1 0 _ rfl, VO.out.2.1 1 _ rfl, VO.out.2.1 2 _ rfl, VO.out.2.1 3 _ rfl⟩
 go_wp2_with (go_at_call 29; (with_reducible refine (HDM _).mono ?_); rintro e w2 ⟨rfl, rfl⟩)
 go_ret
 exact ⟨rfl, BB.out⟩
set_option maxRecDepth 100000 in
set_option maxHeartbeats 8000000 in
theorem walkA2 (t c me k u v : Int) (x : Nat) (A : Option Addr) (n cap : Nat) (log : List Res) (hm : mayB t c = true) (hme : me < 0) (w : World) (HTab : Hid (Tab w)) (HL : Hid (LogAt w A n log)) :
  Calls Tryz.prog 6 #[.agg #[.int .i64 t, .int .i64 c, .int .i64 me, .int .i64 k, .int .i64 u, .int .i64 v, .int .u64 (x : Int), .slice A n cap]] w fun e w' => e = .returned (.bool true) ∧ Below w.heap.size w w' := by
 have HDM := fun w => dims_any t c w
 rw [hm] at HDM
 have t1 : decide (me < 0) = true := decide_eq_true hme
 go_enter Tryz.func6, Tryz.ntmps6
 go_wp2_with fail
 (with_reducible refine (vrtShown _ (Tab.later HTab (below_pair _ _ _))).mono ?_)
 rintro e w1 ⟨rfl, hb⟩
 have hb0 := below_pair w (.cells #[.int .i64 t, .int .i64 c, .int .i64 me, .int .i64 k, .int .i64 u, .int .i64 v, .int .u64 (x : Int), .slice A n cap] 67) (.cells #[.int .i64 k, .int .i64 u, .int .i64 v, .int .u64 (x : Int)] 42)
 have VO := Lib.hid ((VarAt.made1 w (.cells #[.int .i64 t, .int .i64 c, .int .i64 me, .int .i64 k, .int .i64 u, .int .i64 v, .int .u64 (x : Int), .slice A n cap] 67) #[.int .i64 k, .int .i64 u, .int .i64 v, .int .u64 (x : Int)] 42).below hb)
 have hbw : Below w.heap.size w w1 := hb0.trans (hb.mono hb0.size)
 have HLn := Lib.hid (HL.out.later hbw); clear HL; have HL := HLn; clear HLn
 have HTn := Tab.later HTab hbw; clear HTab; have HTab := HTn; clear HTn
 have BB := Lib.hid hbw
 clear hb hbw hb0
 generalize w.heap.size + 1 = bo at VO ⊢
 obtain ⟨_, o0, o1, o2, o3⟩ : bo < w1.heap.size ∧ w1.cell? ⟨bo, 0, none⟩ = some (.int .i64 k) ∧ w1.cell? ⟨bo, 1, none⟩ = some (.int .i64 u) ∧ w1.cell? ⟨bo, 2, none⟩ = some (.int .i64 v) ∧ w1.cell? ⟨bo, 3, none⟩ = some (.int .u64 (x : Int)) := ⟨VO.out.1, VO.out.2.1 0 _ rfl, VO.out.2.1 1 _ rfl, VO.out.2.1 2 _ rfl, VO.out.2.1 3 _ rfl⟩
 go_wp2_with (go_at_call 29; (with_reducible refine (HDM _).mono ?_); rintro e w2 ⟨rfl, rfl⟩)
 go_ret
 exact ⟨rfl, BB.out⟩
set_option maxRecDepth 100000 in
set_option maxHeartbeats 8000000 in
theorem walkA3 (t c me k u v : Int) (x : Nat) (A : Option Addr) (n cap : Nat) (log : List Res) (hm : mayB t c = true) (hme : 0 ≤ me) (hmt : t ≤ me) (w : World) (HTab : Hid (Tab w)) (HL : Hid (LogAt w A n log)) :
  Calls Tryz.prog 6 #[.agg #[.int .i64 t, .int .i64 c, .int .i64 me, .int .i64 k, .int .i64 u, .int .i64 v, .int .u64 (x : Int), .slice A n cap]] w fun e w' => e = .returned (.bool true) ∧ Below w.heap.size w w' := by
 have HDM := fun w => dims_any t c w
 rw [hm] at HDM
 have t1 : decide (me < 0) = false := decide_eq_false (by omega)
 have t2 : decide (t ≤ me) = true := decide_eq_true hmt
 go_enter Tryz.func6, Tryz.ntmps6
 go_wp2_with fail
 (with_reducible refine (vrtShown _ (Tab.later HTab (below_pair _ _ _))).mono ?_)
 rintro e w1 ⟨rfl, hb⟩
 have hb0 := below_pair w (.cells #[.int .i64 t, .int .i64 c, .int .i64 me, .int .i64 k, .int .i64 u, .int .i64 v, .int .u64 (x : Int), .slice A n cap] 67) (.cells #[.int .i64 k, .int .i64 u, .int .i64 v, .int .u64 (x : Int)] 42)
 have VO := Lib.hid ((VarAt.made1 w (.cells #[.int .i64 t, .int .i64 c, .int .i64 me, .int .i64 k, .int .i64 u, .int .i64 v, .int .u64 (x : Int), .slice A n cap] 67) #[.int .i64 k, .int .i64 u, .int .i64 v, .int .u64 (x : Int)] 42).below hb)
 have hbw : Below w.heap.size w w1 := hb0.trans (hb.mono hb0.size)
 have HLn := Lib.hid (HL.out.later hbw); clear HL; have HL := HLn; clear HLn
 have HTn := Tab.later HTab hbw; clear HTab; have HTab := HTn; clear HTn
 have BB := Lib.hid hbw
 clear hb hbw hb0
 generalize w.heap.size + 1 = bo at VO ⊢
 obtain ⟨_, o0, o1, o2, o3⟩ : bo < w1.heap.size ∧ w1.cell? ⟨bo, 0, none⟩ = some (.int .i64 k) ∧ w1.cell? ⟨bo, 1, none⟩ = some (.int .i64 u) ∧ w1.cell? ⟨bo, 2, none⟩ = some (.int .i64 v) ∧ w1.cell? ⟨bo, 3, none⟩ = some (.int .u64 (x : Int)) := ⟨VO.out.1, VO.out.2.1 0 _ rfl, VO.out.2.1 1 _ rfl, VO.out.2.1 2 _ rfl, VO.out.2.1 3 _ rfl⟩
 go_wp2_with (go_at_call 29; (with_reducible refine (HDM _).mono ?_); rintro e w2 ⟨rfl, rfl⟩)
 go_ret
 exact ⟨rfl, BB.out⟩
set_option maxRecDepth 100000 in
set_option maxHeartbeats 8000000 in
theorem walkB (t c me k u v : Int) (x : Nat) (A : Option Addr) (n cap : Nat) (log : List Res) (hm : mayB t c = true) (hme : 0 ≤ me) (hmt : me < t) (hn : 120 < n) (w : World) (HTab : Hid (Tab w)) (HL : Hid (LogAt w A n log)) :
  Calls Tryz.prog 6 #[.agg #[.int .i64 t, .int .i64 c, .int .i64 me, .int .i64 k, .int .i64 u, .int .i64 v, .int .u64 (x : Int), .slice A n cap]] w fun e w' => e = .returned (.bool true) ∧ Below w.heap.size w w' := by
 have HDM := fun w => dims_any t c w
 rw [hm] at HDM
 have t1 : decide (me < 0) = false := decide_eq_false (by omega)
 have t2 : decide (t ≤ me) = false := decide_eq_false (by omega)
 have d1 : decide ((120 : Int) < (n : Int)) = true := by rw [decide_eq_true_iff]; omega
 have d1' : decide (120 < n) = true := by rw [decide_eq_true_iff]; omega
 go_enter Tryz.func6, Tryz.ntmps6
 go_wp2_with fail
 (with_reducible refine (vrtShown _ (Tab.later HTab (below_pair _ _ _))).mono ?_)
 rintro e w1 ⟨rfl, hb⟩
 have hb0 := below_pair w (.cells #[.int .i64 t, .int .i64 c, .int .i64 me, .int .i64 k, .int .i64 u, .int .i64 v, .int .u64 (x : Int), .slice A n cap] 67) (.cells #[.int .i64 k, .int .i64 u, .int .i64 v, .int .u64 (x : Int)] 42)
 have VO := Lib.hid ((VarAt.made1 w (.cells #[.int .i64 t, .int .i64 c, .int .i64 me, .int .i64 k, .int .i64 u, .int .i64 v, .int .u64 (x : Int), .slice A n cap] 67) #[.int .i64 k, .int .i64 u, .int .i64 v, .int .u64 (x : Int)] 42).below hb)
 have hbw : Below w.heap.size w w1 := hb0.trans (hb.mono hb0.size)
 have HLn := Lib.hid (HL.out.later hbw); clear HL; have HL := HLn; clear HLn
 have HTn := Tab.later HTab hbw; clear HTab; have HTab := HTn; clear HTn
 have BB := Lib.hid hbw
 clear hb hbw hb0
 generalize w.heap.size + 1 = bo at VO ⊢
 obtain ⟨_, o0, o1, o2, o3⟩ : bo < w1.heap.size ∧ w1.cell? ⟨bo, 0, none⟩ = some (.int .i64 k) ∧ w1.cell? ⟨bo, 1, none⟩ = some (.int .i64 u) ∧ w1.cell? ⟨bo, 2, none⟩ = some (.int .i64 v) ∧ w1.cell? ⟨bo, 3, none⟩ = some (.int .u64 (x : Int)) := ⟨VO.out.1, VO.out.2.1 0 _ rfl, VO.out.2.1 1 _ rfl, VO.out.2.1 2 _ rfl, VO.out.2.1 3 _ rfl⟩
 go_wp2_with (go_at_call 29; (with_reducible refine (HDM _).mono ?_); rintro e w2 ⟨rfl, rfl⟩)
 go_ret
 exact ⟨rfl, BB.out⟩
set_option maxRecDepth 100000 in
set_option maxHeartbeats 8000000 in
theorem walkDone (t c me k u v : Int) (x : Nat) (A : Option Addr) (n cap : Nat) (log : List Res) (tn : Nat) (ht : t = (tn : Int)) (ht1 : tn ≤ 64) (hc1 : c ≤ 65536) (mn : Nat) (hme : me = (mn : Int)) (hmt : mn < tn) (hm : mayB t c = true) (hn : n ≤ 120) (hcap : n ≤ cap) (r : Nat) (s2 : List Res) (hR : vNextR tn mn k u log = .done r s2) (w : World) (HTab : Hid (Tab w)) (HL : Hid (LogAt w A n log)) :
  Calls Tryz.prog 6 #[.agg #[.int .i64 t, .int .i64 c, .int .i64 me, .int .i64 k, .int .i64 u, .int .i64 v, .int .u64 (x : Int), .slice A n cap]] w fun e w' => e = .returned (.bool true) ∧ Below w.heap.size w w' := by
 have HDM := fun w => dims_any t c w
 rw [hm] at HDM
 have d1 : decide ((120 : Int) < (n : Int)) = false := by rw [decide_eq_false_iff_not]; omega
 have d1' : decide (120 < n) = false := by rw [decide_eq_false_iff_not]; omega
 subst ht
 subst hme
 have t1 : decide ((mn : Int) < 0) = false := decide_eq_false (by omega)
 have t2 : decide ((tn : Int) ≤ (mn : Int)) = false := decide_eq_false (by omega)
 have HRN := fun w hl => vRefNext_at tn ht1 mn (by omega) k u v x A n cap log hcap w hl
 rw [hR] at HRN
 unfold TellW vTell ToldL.val at HRN
 simp only at HRN
 have HN := fun w ht hl => vNext_done tn ht1 c mn (by omega) k u v x A n cap log hcap w ht hl r s2 hR
 have HRN' : ∀ w, Hid (LogAt w A n log) → Calls Tryz.prog 31 #[.int .i64 (tn : Int), .int .i64 (mn : Int), .agg #[.int .i64 k, .int .i64 u, .int .i64 v, .int .u64 (x : Int)], .slice A n cap] w (fun e w' => ∃ D dc, e = .returned (.tuple #[.agg #[.int .i64 0, .int .i64 0, .int .u64 0, .int .u64 0, .slice D 0 dc, .slice none 0 0], .agg #[.int .i64 (vErr r), .bool (vIs r), .int .i64 0, .int .u64 0, .slice none 0 0], .bool true]) ∧ AccP w' Acc.zero D dc none 0 ∧ Below w.heap.size w w') :=
  fun w hl => (HRN w hl).mono (fun e w' ⟨D, dc, he, h1, h2, h3, hb⟩ => ⟨D, dc, he, ⟨by decide, by decide, by decide, by decide, ⟨h2, Nat.zero_le _⟩, by decide, h1, AtW.nil _ _⟩, hb⟩)
 clear HRN
 generalize vErr r = er at *
 generalize vIs r = oi at *
 have HAK : ∀ w D4 dc4, AccP w Acc.zero none 0 none 0 → AccP w Acc.zero D4 dc4 none 0 → Calls Tryz.prog 32 #[.agg #[.int .i64 0, .int .i64 0, .int .u64 0, .int .u64 0, .slice none 0 0, .slice none 0 0], .agg #[.int .i64 0, .int .i64 0, .int .u64 0, .int .u64 0, .slice D4 0 dc4, .slice none 0 0]] w (Kept w (.bool true)) := by
  intro w D4 dc4 h1 h2
  exact asks_same Acc.zero none 0 none 0 D4 dc4 none 0 w (Lib.hid h1) (Lib.hid h2)
 have HM := Lib.hid (And.intro ht1 hc1)
 clear hR hn hcap ht1 hc1
 go_enter Tryz.func6, Tryz.ntmps6
 go_wp2_with fail
 (with_reducible refine (vrtShown _ (Tab.later HTab (below_pair _ _ _))).mono ?_)
 rintro e w1 ⟨rfl, hb⟩
 have hb0 := below_pair w (.cells #[.int .i64 (tn : Int), .int .i64 c, .int .i64 (mn : Int), .int .i64 k, .int .i64 u, .int .i64 v, .int .u64 (x : Int), .slice A n cap] 67) (.cells #[.int .i64 k, .int .i64 u, .int .i64 v, .int .u64 (x : Int)] 42)
 have VO := Lib.hid ((VarAt.made1 w (.cells #[.int .i64 (tn : Int), .int .i64 c, .int .i64 (mn : Int), .int .i64 k, .int .i64 u, .int .i64 v, .int .u64 (x : Int), .slice A n cap] 67) #[.int .i64 k, .int .i64 u, .int .i64 v, .int .u64 (x : Int)] 42).below hb)
 have hbw : Below w.heap.size w w1 := hb0.trans (hb.mono hb0.size)
 have HLn := Lib.hid (HL.out.later hbw); clear HL; have HL := HLn; clear HLn
 have HTn := Tab.later HTab hbw; clear HTab; have HTab := HTn; clear HTn
 have BB := Lib.hid hbw
 clear hb hbw hb0
 generalize w.heap.size + 1 = bo at VO ⊢
 obtain ⟨_, o0, o1, o2, o3⟩ : bo < w1.heap.size ∧ w1.cell? ⟨bo, 0, none⟩ = some (.int .i64 k) ∧ w1.cell? ⟨bo, 1, none⟩ = some (.int .i64 u) ∧ w1.cell? ⟨bo, 2, none⟩ = some (.int .i64 v) ∧ w1.cell? ⟨bo, 3, none⟩ = some (.int .u64 (x : Int)) := ⟨VO.out.1, VO.out.2.1 0 _ rfl, VO.out.2.1 1 _ rfl, VO.out.2.1 2 _ rfl, VO.out.2.1 3 _ rfl⟩
 go_wp2_with (go_at_call 29; (with_reducible refine (HDM _).mono ?_); rintro e w2 ⟨rfl, rfl⟩)
 clear o0 o1 o2 o3
 (with_reducible refine (HN _ HTab.out HL).mono ?_)
 clear HN
 rintro e w3 ⟨rfl, hb3⟩
 have HRN2 := HRN'
 clear HRN'
 have P3 := AccP.zero w3
 have P3h := Lib.hid P3
 clear P3
 go_upto_region 10 with fail
 have hbx3 : Below w3.heap.size w3 ((w3.alloc (.cells #[.int .i64 0, .int .i64 0, .int .u64 0, .int .u64 0, .slice none 0 0, .slice none 0 0] 70)).alloc (.cells #[.int .i64 er, .bool oi, .int .i64 0, .int .u64 0, .slice none 0 0] 38)) := below_pair _ _ _
 have V3 := Lib.hid ((VarAt.made w3 #[.int .i64 0, .int .i64 0, .int .u64 0, .int .u64 0, .slice none 0 0, .slice none 0 0] 70).below (al_below _ (.cells #[.int .i64 er, .bool oi, .int .i64 0, .int .u64 0, .slice none 0 0] 38)))
 have O3 := Lib.hid (VarAt.made1 w3 (.cells #[.int .i64 0, .int .i64 0, .int .u64 0, .int .u64 0, .slice none 0 0, .slice none 0 0] 70) #[.int .i64 er, .bool oi, .int .i64 0, .int .u64 0, .slice none 0 0] 38)
 have P3 := Lib.hid (P3h.out.later hbx3)
 clear P3h
 have hbn3 := hb3.trans (hbx3.mono hb3.size)
 generalize (w3.alloc (.cells #[.int .i64 0, .int .i64 0, .int .u64 0, .int .u64 0, .slice none 0 0, .slice none 0 0] 70)).alloc (.cells #[.int .i64 er, .bool oi, .int .i64 0, .int .u64 0, .slice none 0 0] 38) = x3 at hbx3 V3 O3 hbn3 P3 ⊢
 generalize w3.heap.size = b3 at V3 O3 ⊢
 have HLn := Lib.hid (HL.out.later hbn3); clear HL; have HL := HLn; clear HLn
 have VOn := Lib.hid (VO.out.below hbn3); clear VO; have VO := VOn; clear VOn
 have BBn := Lib.hid (BB.out.trans (hbn3.mono BB.out.size)); clear BB; have BB := BBn; clear BBn
 clear hb3 hbx3 hbn3
 obtain ⟨_, o0, o1, o2, o3⟩ : bo < x3.heap.size ∧ x3.cell? ⟨bo, 0, none⟩ = some (.int .i64 k) ∧ x3.cell? ⟨bo, 1, none⟩ = some (.int .i64 u) ∧ x3.cell? ⟨bo, 2, none⟩ = some (.int .i64 v) ∧ x3.cell? ⟨bo, 3, none⟩ = some (.int .u64 (x : Int)) := ⟨VO.out.1, VO.out.2.1 0 _ rfl, VO.out.2.1 1 _ rfl, VO.out.2.1 2 _ rfl, VO.out.2.1 3 _ rfl⟩
 go_wp2_with fail
 (with_reducible refine (HRN2 _ HL).mono ?_)
 clear HRN2
 rintro e w4 ⟨D4, dc4, rfl, P4, hb4⟩
 have P4h := Lib.hid P4
 clear P4
 go_upto_region 11 with fail
 have hbx4 : Below w4.heap.size w4 ((w4.alloc (.cells #[.int .i64 0, .int .i64 0, .int .u64 0, .int .u64 0, .slice D4 0 dc4, .slice none 0 0] 70)).alloc (.cells #[.int .i64 er, .bool oi, .int .i64 0, .int .u64 0, .slice none 0 0] 38)) := below_pair _ _ _
 have V4 := Lib.hid ((VarAt.made w4 #[.int .i64 0, .int .i64 0, .int .u64 0, .int .u64 0, .slice D4 0 dc4, .slice none 0 0] 70).below (al_below _ (.cells #[.int .i64 er, .bool oi, .int .i64 0, .int .u64 0, .slice none 0 0] 38)))
 have O4 := Lib.hid (VarAt.made1 w4 (.cells #[.int .i64 0, .int .i64 0, .int .u64 0, .int .u64 0, .slice D4 0 dc4, .slice none 0 0] 70) #[.int .i64 er, .bool oi, .int .i64 0, .int .u64 0, .slice none 0 0] 38)
 have P4 := Lib.hid (P4h.out.later hbx4)
 clear P4h
 have hbn4 := hb4.trans (hbx4.mono hb4.size)
 generalize (w4.alloc (.cells #[.int .i64 0, .int .i64 0, .int .u64 0, .int .u64 0, .slice D4 0 dc4, .slice none 0 0] 70)).alloc (.cells #[.int .i64 er, .bool oi, .int .i64 0, .int .u64 0, .slice none 0 0] 38) = x4 at hbx4 V4 O4 hbn4 P4 ⊢
 generalize w4.heap.size = b4 at V4 O4 ⊢
 have V3n := Lib.hid (V3.out.below hbn4); clear V3; have V3 := V3n; clear V3n
 have O3n := Lib.hid (O3.out.below hbn4); clear O3; have O3 := O3n; clear O3n
 have P3n := Lib.hid (P3.out.later hbn4); clear P3; have P3 := P3n; clear P3n
 have BBn := Lib.hid (BB.out.trans (hbn4.mono BB.out.size)); clear BB; have BB := BBn; clear BBn
 clear hb4 hbx4 hbn4 o0 o1 o2 o3
 obtain ⟨_, ⟨a0, a1, a2, a3, a4, a5⟩, _⟩ := V3.out.six
 obtain ⟨_, ⟨b0, b1, b2, b3', b4', b5⟩, _⟩ := V4.out.six
 go_wp2_with fail
 (with_reducible refine (HAK _ D4 dc4 P3.out P4.out).mono ?_)
 rintro e w5 ⟨rfl, hb5⟩
 obtain ⟨_, ⟨r1, r2, r3, r4, r5⟩, _⟩ := (O3.out.below hb5).five
 obtain ⟨_, ⟨q1, q2, q3, q4, q5⟩, _⟩ := (O4.out.below hb5).five
 have BBn := Lib.hid (BB.out.trans (hb5.mono BB.out.size)); clear BB; have BB := BBn; clear BBn
 clear hb5 a0 a1 a2 a3 a4 a5 b0 b1 b2 b3' b4' b5
 go_wp2_with fail
 (with_reducible refine (outsI_same er oi 0 0 _).mono ?_)
 rintro e w6 ⟨rfl, hb6⟩
 have BBn := Lib.hid (BB.out.trans (hb6.mono BB.out.size)); clear BB; have BB := BBn; clear BBn
 clear hb6
 go_wp2_with fail
 go_ret
 exact ⟨rfl, BB.out⟩
set_option maxRecDepth 100000 in
set_option maxHeartbeats 8000000 in
theorem walkLeft (t c me k u v : Int) (x : Nat) (A : Option Addr) (n cap : Nat) (log : List Res) (tn : Nat) (ht : t = (tn : Int)) (ht1 : tn ≤ 64) (hc1 : c ≤ 65536) (mn : Nat) (hme : me = (mn : Int)) (hmt : mn < tn) (hm : mayB t c = true) (hn : n ≤ 120) (hcap : n ≤ cap) (K i : Int) (a b : Nat) (d : List Nat) (dn : Nat) (hdn : d.length = dn) (hR : vNextR tn mn k u log = .left K i a b d) (w : World) (HTab : Hid (Tab w)) (HL : Hid (LogAt w A n log)) :
  Calls Tryz.prog 6 #[.agg #[.int .i64 t, .int .i64 c, .int .i64 me, .int .i64 k, .int .i64 u, .int .i64 v, .int .u64 (x : Int), .slice A n cap]] w fun e w' => e = .returned (.bool true) ∧ Below w.heap.size w w' := by
 have HDM := fun w => dims_any t c w
 rw [hm] at HDM
 have d1 : decide ((120 : Int) < (n : Int)) = false := by rw [decide_eq_false_iff_not]; omega
 have d1' : decide (120 < n) = false := by rw [decide_eq_false_iff_not]; omega
 subst ht
 subst hme
 have t1 : decide ((mn : Int) < 0) = false := decide_eq_false (by omega)
 have t2 : decide ((tn : Int) ≤ (mn : Int)) = false := decide_eq_false (by omega)
 have HRN := fun w hl => vRefNext_at tn ht1 mn (by omega) k u v x A n cap log hcap w hl
 rw [hR] at HRN
 unfold TellW vTell ToldL.val at HRN
 simp only at HRN
 have HN : ∀ w, Tab w → Hid (LogAt w A n log) → Calls Tryz.prog 30 #[.int .i64 (tn : Int), .int .i64 c, .int .i64 (mn : Int), .agg #[.int .i64 k, .int .i64 u, .int .i64 v, .int .u64 (x : Int)], .slice A n cap] w (fun e w' => ∃ D dc E ec, e = .returned (.tuple #[.agg #[.int .i64 K, .int .i64 i, .int .u64 (a : Int), .int .u64 (b : Int), .slice D dn dc, .slice E 0 ec], .agg #[.int .i64 0, .bool false, .int .i64 0, .int .u64 0, .slice none 0 0], .bool false]) ∧ AccP w' (accD K i a b d) D dc E ec ∧ Below w.heap.size w w') :=
  fun w ht hl => (vNext_left tn ht1 c mn (by omega) k u v x A n cap log hcap w ht hl K i a b d hR).mono (fun e w' ⟨D, dc, E, ec, he, hX, hb, _, _⟩ => ⟨D, dc, E, ec, by rw [← hdn]; exact he, hX, hb⟩)
 have HRN' : ∀ w, Hid (LogAt w A n log) → (-9223372036854775808 ≤ K ∧ K < 9223372036854775808) → (-9223372036854775808 ≤ i ∧ i < 9223372036854775808) → a < 18446744073709551616 → b < 18446744073709551616 → Calls Tryz.prog 31 #[.int .i64 (tn : Int), .int .i64 (mn : Int), .agg #[.int .i64 k, .int .i64 u, .int .i64 v, .int .u64 (x : Int)], .slice A n cap] w (fun e w' => ∃ D dc, e = .returned (.tuple #[.agg #[.int .i64 K, .int .i64 i, .int .u64 (a : Int), .int .u64 (b : Int), .slice D dn dc, .slice none 0 0], .agg #[.int .i64 0, .bool false, .int .i64 0, .int .u64 0, .slice none 0 0], .bool false]) ∧ AccP w' (accD K i a b d) D dc none 0 ∧ Below w.heap.size w w') :=
  fun w hl hK hi ha hb' => (HRN w hl).mono (fun e w' ⟨D, dc, he, h1, h2, h3, hb⟩ => ⟨D, dc, by rw [← hdn]; exact he, ⟨hK, hi, ha, hb', ⟨h2, show d.length ≤ 140737488355328 by omega⟩, ⟨Nat.le_refl 0, Nat.zero_le _⟩, h1, AtW.nil _ _⟩, hb⟩)
 clear HRN
 have HAK : ∀ w D3 dc3 E3 ec3 D4 dc4, AccP w (accD K i a b d) D3 dc3 E3 ec3 → AccP w (accD K i a b d) D4 dc4 none 0 → Calls Tryz.prog 32 #[.agg #[.int .i64 K, .int .i64 i, .int .u64 (a : Int), .int .u64 (b : Int), .slice D3 dn dc3, .slice E3 0 ec3], .agg #[.int .i64 K, .int .i64 i, .int .u64 (a : Int), .int .u64 (b : Int), .slice D4 dn dc4, .slice none 0 0]] w (Kept w (.bool true)) := by
  intro w D3 dc3 E3 ec3 D4 dc4 h1 h2
  rw [← hdn]
  exact asks_same (accD K i a b d) D3 dc3 E3 ec3 D4 dc4 none 0 w (Lib.hid h1) (Lib.hid h2)
 have HM := Lib.hid (And.intro ht1 hc1)
 clear hR hn hcap ht1 hc1 hdn
 go_enter Tryz.func6, Tryz.ntmps6
 go_wp2_with fail
 (with_reducible refine (vrtShown _ (Tab.later HTab (below_pair _ _ _))).mono ?_)
 rintro e w1 ⟨rfl, hb⟩
 have hb0 := below_pair w (.cells #[.int .i64 (tn : Int), .int .i64 c, .int .i64 (mn : Int), .int .i64 k, .int .i64 u, .int .i64 v, .int .u64 (x : Int), .slice A n cap] 67) (.cells #[.int .i64 k, .int .i64 u, .int .i64 v, .int .u64 (x : Int)] 42)
 have VO := Lib.hid ((VarAt.made1 w (.cells #[.int .i64 (tn : Int), .int .i64 c, .int .i64 (mn : Int), .int .i64 k, .int .i64 u, .int .i64 v, .int .u64 (x : Int), .slice A n cap] 67) #[.int .i64 k, .int .i64 u, .int .i64 v, .int .u64 (x : Int)] 42).below hb)
 have hbw : Below w.heap.size w w1 := hb0.trans (hb.mono hb0.size)
 have HLn := Lib.hid (HL.out.later hbw); clear HL; have HL := HLn; clear HLn
 have HTn := Tab.later HTab hbw; clear HTab; have HTab := HTn; clear HTn
 have BB := Lib.hid hbw
 clear hb hbw hb0
 generalize w.heap.size + 1 = bo at VO ⊢
 obtain ⟨_, o0, o1, o2, o3⟩ : bo < w1.heap.size ∧ w1.cell? ⟨bo, 0, none⟩ = some (.int .i64 k) ∧ w1.cell? ⟨bo, 1, none⟩ = some (.int .i64 u) ∧ w1.cell? ⟨bo, 2, none⟩ = some (.int .i64 v) ∧ w1.cell? ⟨bo, 3, none⟩ = some (.int .u64 (x : Int)) := ⟨VO.out.1, VO.out.2.1 0 _ rfl, VO.out.2.1 1 _ rfl, VO.out.2.1 2 _ rfl, VO.out.2.1 3 _ rfl⟩
 go_wp2_with (go_at_call 29; (with_reducible refine (HDM _).mono ?_); rintro e w2 ⟨rfl, rfl⟩)
 clear o0 o1 o2 o3
 (with_reducible refine (HN _ HTab.out HL).mono ?_)
 clear HN
 rintro e w3 ⟨D3, dc3, E3, ec3, rfl, hX3, hb3⟩
 have hX3k := hX3.k
 have hX3c := hX3.c
 have hX3a := hX3.a
 have hX3b := hX3.b
 have HRN2 := fun w hl => HRN' w hl hX3k hX3c hX3a hX3b
 clear HRN' hX3k hX3c hX3a hX3b
 have P3 := hX3
 clear hX3
 have P3h := Lib.hid P3
 clear P3
 go_upto_region 10 with fail
 have hbx3 : Below w3.heap.size w3 ((w3.alloc (.cells #[.int .i64 K, .int .i64 i, .int .u64 (a : Int), .int .u64 (b : Int), .slice D3 dn dc3, .slice E3 0 ec3] 70)).alloc (.cells #[.int .i64 0, .bool false, .int .i64 0, .int .u64 0, .slice none 0 0] 38)) := below_pair _ _ _
 have V3 := Lib.hid ((VarAt.made w3 #[.int .i64 K, .int .i64 i, .int .u64 (a : Int), .int .u64 (b : Int), .slice D3 dn dc3, .slice E3 0 ec3] 70).below (al_below _ (.cells #[.int .i64 0, .bool false, .int .i64 0, .int .u64 0, .slice none 0 0] 38)))
 have O3 := Lib.hid (VarAt.made1 w3 (.cells #[.int .i64 K, .int .i64 i, .int .u64 (a : Int), .int .u64 (b : Int), .slice D3 dn dc3, .slice E3 0 ec3] 70) #[.int .i64 0, .bool false, .int .i64 0, .int .u64 0, .slice none 0 0] 38)
 have P3 := Lib.hid (P3h.out.later hbx3)
 clear P3h
 have hbn3 := hb3.trans (hbx3.mono hb3.size)
 generalize (w3.alloc (.cells #[.int .i64 K, .int .i64 i, .int .u64 (a : Int), .int .u64 (b : Int), .slice D3 dn dc3, .slice E3 0 ec3] 70)).alloc (.cells #[.int .i64 0, .bool false, .int .i64 0, .int .u64 0, .slice none 0 0] 38) = x3 at hbx3 V3 O3 hbn3 P3 ⊢
 generalize w3.heap.size = b3 at V3 O3 ⊢
 have HLn := Lib.hid (HL.out.later hbn3); clear HL; have HL := HLn; clear HLn
 have VOn := Lib.hid (VO.out.below hbn3); clear VO; have VO := VOn; clear VOn
 have BBn := Lib.hid (BB.out.trans (hbn3.mono BB.out.size)); clear BB; have BB := BBn; clear BBn
 clear hb3 hbx3 hbn3
 obtain ⟨_, o0, o1, o2, o3⟩ : bo < x3.heap.size ∧ x3.cell? ⟨bo, 0, none⟩ = some (.int .i64 k) ∧ x3.cell? ⟨bo, 1, none⟩ = some (.int .i64 u) ∧ x3.cell? ⟨bo, 2, none⟩ = some (.int .i64 v) ∧ x3.cell? ⟨bo, 3, none⟩ = some (.int .u64 (x : Int)) := ⟨VO.out.1, VO.out.2.1 0 _ rfl, VO.out.2.1 1 _ rfl, VO.out.2.1 2 _ rfl, VO.out.2.1 3 _ rfl⟩
 go_wp2_with fail
 (with_reducible refine (HRN2 _ HL).mono ?_)
 clear HRN2
 rintro e w4 ⟨D4, dc4, rfl, P4, hb4⟩
 have P4h := Lib.hid P4
 clear P4
 go_upto_region 11 with fail
 have hbx4 : Below w4.heap.size w4 ((w4.alloc (.cells #[.int .i64 K, .int .i64 i, .int .u64 (a : Int), .int .u64 (b : Int), .slice D4 dn dc4, .slice none 0 0] 70)).alloc (.cells #[.int .i64 0, .bool false, .int .i64 0, .int .u64 0, .slice none 0 0] 38)) := below_pair _ _ _
 have V4 := Lib.hid ((VarAt.made w4 #[.int .i64 K, .int .i64 i, .int .u64 (a : Int), .int .u64 (b : Int), .slice D4 dn dc4, .slice none 0 0] 70).below (al_below _ (.cells #[.int .i64 0, .bool false, .int .i64 0, .int .u64 0, .slice none 0 0] 38)))
 have O4 := Lib.hid (VarAt.made1 w4 (.cells #[.int .i64 K, .int .i64 i, .int .u64 (a : Int), .int .u64 (b : Int), .slice D4 dn dc4, .slice none 0 0] 70) #[.int .i64 0, .bool false, .int .i64 0, .int .u64 0, .slice none 0 0] 38)
 have P4 := Lib.hid (P4h.out.later hbx4)
 clear P4h
 have hbn4 := hb4.trans (hbx4.mono hb4.size)
 generalize (w4.alloc (.cells #[.int .i64 K, .int .i64 i, .int .u64 (a : Int), .int .u64 (b : Int), .slice D4 dn dc4, .slice none 0 0] 70)).alloc (.cells #[.int .i64 0, .bool false, .int .i64 0, .int .u64 0, .slice none 0 0] 38) = x4 at hbx4 V4 O4 hbn4 P4 ⊢
 generalize w4.heap.size = b4 at V4 O4 ⊢
 have V3n := Lib.hid (V3.out.below hbn4); clear V3; have V3 := V3n; clear V3n
 have O3n := Lib.hid (O3.out.below hbn4); clear O3; have O3 := O3n; clear O3n
 have P3n := Lib.hid (P3.out.later hbn4); clear P3; have P3 := P3n; clear P3n
 have BBn := Lib.hid (BB.out.trans (hbn4.mono BB.out.size)); clear BB; have BB := BBn; clear BBn
 clear hb4 hbx4 hbn4 o0 o1 o2 o3
 obtain ⟨_, ⟨a0, a1, a2, a3, a4, a5⟩, _⟩ := V3.out.six
 obtain ⟨_, ⟨b0, b1, b2, b3', b4', b5⟩, _⟩ := V4.out.six
 go_wp2_with fail
 (with_reducible refine (HAK _ D3 dc3 E3 ec3 D4 dc4 P3.out P4.out).mono ?_)
 rintro e w5 ⟨rfl, hb5⟩
 obtain ⟨_, ⟨r1, r2, r3, r4, r5⟩, _⟩ := (O3.out.below hb5).five
 obtain ⟨_, ⟨q1, q2, q3, q4, q5⟩, _⟩ := (O4.out.below hb5).five
 have BBn := Lib.hid (BB.out.trans (hb5.mono BB.out.size)); clear BB; have BB := BBn; clear BBn
 clear hb5 a0 a1 a2 a3 a4 a5 b0 b1 b2 b3' b4' b5
 go_wp2_with fail
 (with_reducible refine (outsI_same 0 false 0 0 _).mono ?_)
 rintro e w6 ⟨rfl, hb6⟩
 have BBn := Lib.hid (BB.out.trans (hb6.mono BB.out.size)); clear BB; have BB := BBn; clear BBn
 clear hb6
 go_wp2_with fail
 go_ret
 exact ⟨rfl, BB.out⟩
section
set_option maxRecDepth 100000
set_option maxHeartbeats 2000000
variable {H : Type} {enc : TypeId × Value → H} {w : World}
theorem open_a {v : Value} {d : DataW H} {ps : List MemPlace} {base : Nat} (hval : Value.okWide Tryz.prog w .any base 67 v) (h : DataW.Trod enc Tryz.prog w 0 (fun _ => true) true 67 v d ps) (hs : Sized Tryz.prog 67 d) (hlt : ∀ z ∈ ps, z.block < w.heap.size) :
  ∃ (aT : Int) (aC : Int) (aMe : Int) (aOpKind : Int) (aOpU : Int) (aOpV : Int) (aOpW : Nat) (aLogA : Option Addr) (aLogL aLogC : Nat) (aLogl : List Res), v = .agg #[.int .i64 aT, .int .i64 aC, .int .i64 aMe, .int .i64 aOpKind, .int .i64 aOpU, .int .i64 aOpV, .int .u64 (aOpW : Int), .slice aLogA aLogL aLogC] ∧ (-9223372036854775808 ≤ aT ∧ aT < 9223372036854775808) ∧ (-9223372036854775808 ≤ aC ∧ aC < 9223372036854775808) ∧ (-9223372036854775808 ≤ aMe ∧ aMe < 9223372036854775808) ∧ (-9223372036854775808 ≤ aOpKind ∧ aOpKind < 9223372036854775808) ∧ (-9223372036854775808 ≤ aOpU ∧ aOpU < 9223372036854775808) ∧ (-9223372036854775808 ≤ aOpV ∧ aOpV < 9223372036854775808) ∧ aOpW < 18446744073709551616 ∧ (aLogL ≤ aLogC ∧ LogAt w aLogA aLogL aLogl) := by
 obtain ⟨cs, rfl, hsz⟩ := okWide_struct Tryz.underlying67 hval
 obtain ⟨fuel, hf⟩ := h
 have hcs : (Value.agg cs).cells.toList = cs.toList := rfl
 rw [hcs] at hf
 have hcl : cs.toList.length = 8 := by rw [Array.length_toList, hsz]; kernel_rfl
 obtain ⟨c0, c1, c2, c3, c4, c5, c6, c7, hL⟩ : ∃ c0 c1 c2 c3 c4 c5 c6 c7, cs.toList = [c0, c1, c2, c3, c4, c5, c6, c7] := ⟨_, _, _, _, _, _, _, _, cells_of hcl .nilIface⟩
 rw [hL] at hf
 rw [list_agg hL]
 clear hcl hL hsz hcs
 obtain ⟨y0, n0, g0, s0, q0⟩ := field_at Tryz.underlying67 hf 0 _ rfl 3 0 1 [c0] rfl rfl (by kernel_rfl) rfl hs hlt
 obtain ⟨aT, e1, haT⟩ := leaf_i64 Tryz.underlying3 g0
 cases e1
 obtain ⟨y2, n2, g2, s2, q2⟩ := field_at Tryz.underlying67 hf 1 _ rfl 3 1 1 [c1] rfl rfl (by kernel_rfl) rfl hs hlt
 obtain ⟨aC, e3, haC⟩ := leaf_i64 Tryz.underlying3 g2
 cases e3
 obtain ⟨y4, n4, g4, s4, q4⟩ := field_at Tryz.underlying67 hf 2 _ rfl 3 2 1 [c2] rfl rfl (by kernel_rfl) rfl hs hlt
 obtain ⟨aMe, e5, haMe⟩ := leaf_i64 Tryz.underlying3 g4
 cases e5
 obtain ⟨y6, n6, g6, s6, q6⟩ := field_at Tryz.underlying67 hf 3 _ rfl 42 3 4 [c3, c4, c5, c6] rfl rfl (by kernel_rfl) rfl hs hlt
 obtain ⟨y7, n7, g7, s7, q7⟩ := field_at Tryz.underlying42 g6 0 _ rfl 3 0 1 [c3] rfl rfl (by kernel_rfl) rfl s6 q6
 obtain ⟨aOpKind, e8, haOpKind⟩ := leaf_i64 Tryz.underlying3 g7
 cases e8
 obtain ⟨y9, n9, g9, s9, q9⟩ := field_at Tryz.underlying42 g6 1 _ rfl 3 1 1 [c4] rfl rfl (by kernel_rfl) rfl s6 q6
 obtain ⟨aOpU, e10, haOpU⟩ := leaf_i64 Tryz.underlying3 g9
 cases e10
 obtain ⟨y11, n11, g11, s11, q11⟩ := field_at Tryz.underlying42 g6 2 _ rfl 3 2 1 [c5] rfl rfl (by kernel_rfl) rfl s6 q6
 obtain ⟨aOpV, e12, haOpV⟩ := leaf_i64 Tryz.underlying3 g11
 cases e12
 obtain ⟨y13, n13, g13, s13, q13⟩ := field_at Tryz.underlying42 g6 3 _ rfl 27 3 1 [c6] rfl rfl (by kernel_rfl) rfl s6 q6
 obtain ⟨aOpW, e14, haOpW⟩ := leaf_u64 Tryz.underlying27 g13
 cases e14
 obtain ⟨y15, n15, g15, s15, q15⟩ := field_at Tryz.underlying67 hf 4 _ rfl 65 7 1 [c7] rfl rfl (by kernel_rfl) rfl hs hlt
 obtain ⟨aLogA, aLogL, aLogC, aLogl, e16, haLog⟩ := leaf_logs g15 s15 q15
 cases e16
 exact ⟨aT, aC, aMe, aOpKind, aOpU, aOpV, aOpW, aLogA, aLogL, aLogC, aLogl, rfl, haT, haC, haMe, haOpKind, haOpU, haOpV, haOpW, haLog⟩
end
set_option maxRecDepth 100000 in
set_option maxHeartbeats 8000000 in
theorem lifted (os : Os) (started : os.Started) (H : Type) (enc : TypeId × Value → H) :
  ReturnsInHanded {} Tryz.checked os 6 .any (fun w args => (Rows.vertNextSpec.pre enc Tryz.prog Tryz.f6 [] false w args ∧ laidMetH Tryz.prog laidHalf w) ∧ sizedMet enc Tryz.prog Tryz.f6 (OpenSpec.ofChange Rows.vertNextSpec) false w args)
   (Rows.vertNextSpec.post enc Tryz.prog Tryz.f6 false true false false) := by
 refine law_lifted_laid (C := Tryz.checked) (X := fun w _ => laidMetH Tryz.prog laidHalf w) (fun _ _ _ hh h => h.of_heap hh) own started (by kernel_rfl) Tryz.func6
  (ChangeSpec.witness_shaped (enc := enc) (C := Tryz.checked) (os := os) (X := fun w _ => laidMetH Tryz.prog laidHalf w) false (World.doorLaid Tryz.prog 400 os) #[.agg #[.int .i64 0, .int .i64 0, .int .i64 0, .int .i64 0, .int .i64 0, .int .i64 0, .int .u64 0, .slice none 0 0]] 8 rfl (World.shaped_of_RefB (by kernel_rfl) (by kernel_rfl)) (by kernel_rfl) (by kernel_rfl) (by kernel_rfl) (door_met os _))
  (by kernel_rfl) (by kernel_rfl) Tryz.underlying4 rfl (by kernel_rfl) ?_
 intro W base args ds before hval hA hwt hlt hL
 have hTab := Lib.hid (tab_of_laid hL)
 have hA' : DataW.TrodAll enc Tryz.prog W 0 (fun _ => true) true Tryz.f6.params.toList args.toList ds before := hA
 have hval' : ∀ (j : Nat) t v, Tryz.f6.params[j]? = some t → args[j]? = some v → Value.okWide Tryz.prog W .any base t v := hval
 have hwt' : (DataW.weightsEach Tryz.prog Tryz.f6.params.toList ds).all (· ≤ reachBytes) = true := hwt
 rw [Tryz.params6] at hA' hval' hwt'
 obtain ⟨v0, vs0, d0, ds0, p0, q0, hargs, rfl, rfl, k0, r0⟩ := trodAll_cons hA'
 obtain ⟨rfl, rfl, rfl⟩ := trodAll_nil r0
 obtain rfl : args = #[v0] := by cases args; simp_all
 obtain ⟨aT, aC, aMe, aOpKind, aOpU, aOpV, aOpW, aLogA, aLogL, aLogC, aLogl, rfl, haT, haC, haMe, haOpKind, haOpU, haOpV, haOpW, haLog⟩ := open_a (hval' 0 67 v0 rfl rfl) k0 (sized_of hwt' (j := 0) (t := 67) rfl rfl) (fun x hx => hlt x (by simp [hx]))
 refine ⟨rfl, ?_⟩
 obtain ⟨hlc, hlat⟩ := haLog
 by_cases hm : mayB aT aC = true
 case neg => exact walkA aT aC aMe aOpKind aOpU aOpV aOpW aLogA aLogL aLogC aLogl (by simpa using hm) W hTab (Lib.hid hlat)
 by_cases hme : aMe < 0
 ·exact walkA2 aT aC aMe aOpKind aOpU aOpV aOpW aLogA aLogL aLogC aLogl hm hme W hTab (Lib.hid hlat)
 by_cases hmt : aT ≤ aMe
 ·exact walkA3 aT aC aMe aOpKind aOpU aOpV aOpW aLogA aLogL aLogC aLogl hm (by omega) hmt W hTab (Lib.hid hlat)
 by_cases hn : 120 < aLogL
 ·exact walkB aT aC aMe aOpKind aOpU aOpV aOpW aLogA aLogL aLogC aLogl hm (by omega) (by omega) hn W hTab (Lib.hid hlat)
 obtain ⟨tn, cn, ht, hc, t1, t2, c1⟩ := mayB_iff hm
 obtain ⟨mn, hmn⟩ : ∃ mn : Nat, aMe = (mn : Int) := ⟨aMe.toNat, by omega⟩
 cases hR : vNextR tn mn aOpKind aOpU aLogl with
 | bad => exact absurd hR (vNextR_ok _ _ _ _ _)
 | done r s2 => exact walkDone aT aC aMe aOpKind aOpU aOpV aOpW aLogA aLogL aLogC aLogl tn ht t2 (by omega) mn hmn (by omega) hm (by omega) hlc r s2 hR W hTab (Lib.hid hlat)
 | left K i a b d => exact walkLeft aT aC aMe aOpKind aOpU aOpV aOpW aLogA aLogL aLogC aLogl tn ht t2 (by omega) mn hmn (by omega) hm (by omega) hlc K i a b d _ rfl hR W hTab (Lib.hid hlat)
theorem over : Rows.vertNextRow.holds Tryz.pinned (OpenSpec.ofChange Rows.vertNextSpec) :=
 OpenClaim.holds_of_wide 6 Tryz.f6 rfl rfl rfl rfl rfl rfl rfl ⟨rfl, rfl, rfl, rfl, rfl⟩ rfl rfl rfl rfl rfl (by kernel_rfl) Tryz.func6 (by kernel_rfl)
  (of_decide_eq_true (by kernel_rfl)) (by unfold Func.isWrapper; first | (rw [if_pos (by decide +kernel)]; kernel_rfl) | (rw [if_neg (by decide +kernel)]; exact ⟨rfl, rfl⟩))
  (fun os started H enc _ => lifted os started H enc)
theorem proved : Rows.VertNextCardSaid :=
 Claim7.holds_tied_plain_at .later [] [.data] true (true, "a3f0f31a54d84e334abdb6afb94ff2979c5f8ad5e3892efc7c397a8c2172375d") true
  over (fun _ h => by cases h) (by kernel_rfl) (fun _ h => by cases h) vertNext_row_tie rfl ⟨rfl, rfl⟩ (by kernel_rfl) rfl
  (fun f fn hf hfn => by
   obtain rfl : f = 6 := Option.some.inj ((show Tryz.prog.funcNamed "weald/wealdlaw16.VertNext" = some 6 by kernel_rfl).symm.trans hf) |>.symm
   obtain rfl : fn = Tryz.f6 := (Option.some.inj (Tryz.func6.symm.trans hfn)).symm
   exact ⟨by kernel_rfl, fun j t ht => by
    rw [Tryz.params6] at ht
    have hm : t ∈ [67] := by simpa using Array.mem_of_getElem? ht
    have hall : ([67].all fun u => !Tryz.prog.wantsStandIn u) = true := by kernel_rfl
    exact (show Tryz.prog.wantsStandIn t = false by simpa using List.all_eq_true.1 hall t hm)⟩)
  (by kernel_rfl)
#print axioms proved
end Go.Proofs.YtibpfkcackdbgaaGreatDoor.vertNext
