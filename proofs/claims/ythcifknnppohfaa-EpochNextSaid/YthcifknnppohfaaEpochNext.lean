/-
  EpochNext: what an operation of records asks next, or answers, is as the document says, whatever it was told; for every 60 results. No condition beyond the statement's own.
-/
import Derived.Test.YthcifknnppohfaaEpcD
import Derived.Test.YthcifknnppohfaaEpcC
import Derived.Test.YthcifknnppohfaaPlyLeaf
import Derived.Test.YthcifknnppohfaaLaw
import Derived.Test.YthcifknnppohfaaFields
import Derived.Deep.Cut
import Derived.Deep.CutRange
namespace Go.Proofs.Ythcifknnppohfaa.epochNext
open Go.ChangeShapes Go.WideShapes Go.ChangeAt Go.RowKit Go.Deep Go.BigFrame
set_option linter.unusedVariables false
theorem own : ownKnob Try.prog.godebug = none := by kernel_rfl

set_option maxRecDepth 100000 in
set_option maxHeartbeats 8000000 in
theorem walkA (t c me k u v : Int) (x : Nat) (A : Option Addr) (n cap : Nat) (log : List Res) (hm : mayB t c = false) (w : World) (HL : Hid (LogAt w A n log)) :
    Calls Try.prog 3 #[.agg #[.int .i64 t, .int .i64 c, .int .i64 me, .int .i64 k, .int .i64 u, .int .i64 v, .int .u64 (x : Int), .slice A n cap]] w fun e w' => e = .returned (.bool true) ∧ Below w.heap.size w w' := by
  have HDM := fun w => dims_any t c w
  rw [hm] at HDM
  go_enter Try.func3, Try.ntmps3
  go_wp2_with fail
  (with_reducible refine (epcShown _).mono ?_)
  rintro e w1 ⟨rfl, hb⟩
  have hb0 := below_pair w (.cells #[.int .i64 t, .int .i64 c, .int .i64 me, .int .i64 k, .int .i64 u, .int .i64 v, .int .u64 (x : Int), .slice A n cap] 27) (.cells #[.int .i64 k, .int .i64 u, .int .i64 v, .int .u64 (x : Int)] 24)
  have VO := Lib.hid ((VarAt.made1 w (.cells #[.int .i64 t, .int .i64 c, .int .i64 me, .int .i64 k, .int .i64 u, .int .i64 v, .int .u64 (x : Int), .slice A n cap] 27) #[.int .i64 k, .int .i64 u, .int .i64 v, .int .u64 (x : Int)] 24).below hb)
  have hbw : Below w.heap.size w w1 := hb0.trans (hb.mono hb0.size)
  have HLn := Lib.hid (HL.out.later hbw); clear HL; have HL := HLn; clear HLn
  have BB := Lib.hid hbw
  clear hb hbw hb0
  generalize w.heap.size + 1 = bo at VO ⊢
  obtain ⟨_, o0, o1, o2, o3⟩ : bo < w1.heap.size ∧ w1.cell? ⟨bo, 0, none⟩ = some (.int .i64 k) ∧ w1.cell? ⟨bo, 1, none⟩ = some (.int .i64 u) ∧ w1.cell? ⟨bo, 2, none⟩ = some (.int .i64 v) ∧ w1.cell? ⟨bo, 3, none⟩ = some (.int .u64 (x : Int)) := ⟨VO.out.1, VO.out.2.1 0 _ rfl, VO.out.2.1 1 _ rfl, VO.out.2.1 2 _ rfl, VO.out.2.1 3 _ rfl⟩
  go_wp2_with (go_at_call 10; (with_reducible refine (HDM _).mono ?_); rintro e w2 ⟨rfl, rfl⟩)
  go_ret
  exact ⟨rfl, BB.out⟩

set_option maxRecDepth 100000 in
set_option maxHeartbeats 8000000 in
theorem walkA2 (t c me k u v : Int) (x : Nat) (A : Option Addr) (n cap : Nat) (log : List Res) (hm : mayB t c = true) (hme : me < 0) (w : World) (HL : Hid (LogAt w A n log)) :
    Calls Try.prog 3 #[.agg #[.int .i64 t, .int .i64 c, .int .i64 me, .int .i64 k, .int .i64 u, .int .i64 v, .int .u64 (x : Int), .slice A n cap]] w fun e w' => e = .returned (.bool true) ∧ Below w.heap.size w w' := by
  have HDM := fun w => dims_any t c w
  rw [hm] at HDM
  have t1 : decide (me < 0) = true := decide_eq_true hme
  go_enter Try.func3, Try.ntmps3
  go_wp2_with fail
  (with_reducible refine (epcShown _).mono ?_)
  rintro e w1 ⟨rfl, hb⟩
  have hb0 := below_pair w (.cells #[.int .i64 t, .int .i64 c, .int .i64 me, .int .i64 k, .int .i64 u, .int .i64 v, .int .u64 (x : Int), .slice A n cap] 27) (.cells #[.int .i64 k, .int .i64 u, .int .i64 v, .int .u64 (x : Int)] 24)
  have VO := Lib.hid ((VarAt.made1 w (.cells #[.int .i64 t, .int .i64 c, .int .i64 me, .int .i64 k, .int .i64 u, .int .i64 v, .int .u64 (x : Int), .slice A n cap] 27) #[.int .i64 k, .int .i64 u, .int .i64 v, .int .u64 (x : Int)] 24).below hb)
  have hbw : Below w.heap.size w w1 := hb0.trans (hb.mono hb0.size)
  have HLn := Lib.hid (HL.out.later hbw); clear HL; have HL := HLn; clear HLn
  have BB := Lib.hid hbw
  clear hb hbw hb0
  generalize w.heap.size + 1 = bo at VO ⊢
  obtain ⟨_, o0, o1, o2, o3⟩ : bo < w1.heap.size ∧ w1.cell? ⟨bo, 0, none⟩ = some (.int .i64 k) ∧ w1.cell? ⟨bo, 1, none⟩ = some (.int .i64 u) ∧ w1.cell? ⟨bo, 2, none⟩ = some (.int .i64 v) ∧ w1.cell? ⟨bo, 3, none⟩ = some (.int .u64 (x : Int)) := ⟨VO.out.1, VO.out.2.1 0 _ rfl, VO.out.2.1 1 _ rfl, VO.out.2.1 2 _ rfl, VO.out.2.1 3 _ rfl⟩
  go_wp2_with (go_at_call 10; (with_reducible refine (HDM _).mono ?_); rintro e w2 ⟨rfl, rfl⟩)
  go_ret
  exact ⟨rfl, BB.out⟩

set_option maxRecDepth 100000 in
set_option maxHeartbeats 8000000 in
theorem walkA3 (t c me k u v : Int) (x : Nat) (A : Option Addr) (n cap : Nat) (log : List Res) (hm : mayB t c = true) (hme : 0 ≤ me) (hmt : t ≤ me) (w : World) (HL : Hid (LogAt w A n log)) :
    Calls Try.prog 3 #[.agg #[.int .i64 t, .int .i64 c, .int .i64 me, .int .i64 k, .int .i64 u, .int .i64 v, .int .u64 (x : Int), .slice A n cap]] w fun e w' => e = .returned (.bool true) ∧ Below w.heap.size w w' := by
  have HDM := fun w => dims_any t c w
  rw [hm] at HDM
  have t1 : decide (me < 0) = false := decide_eq_false (by omega)
  have t2 : decide (t ≤ me) = true := decide_eq_true hmt
  go_enter Try.func3, Try.ntmps3
  go_wp2_with fail
  (with_reducible refine (epcShown _).mono ?_)
  rintro e w1 ⟨rfl, hb⟩
  have hb0 := below_pair w (.cells #[.int .i64 t, .int .i64 c, .int .i64 me, .int .i64 k, .int .i64 u, .int .i64 v, .int .u64 (x : Int), .slice A n cap] 27) (.cells #[.int .i64 k, .int .i64 u, .int .i64 v, .int .u64 (x : Int)] 24)
  have VO := Lib.hid ((VarAt.made1 w (.cells #[.int .i64 t, .int .i64 c, .int .i64 me, .int .i64 k, .int .i64 u, .int .i64 v, .int .u64 (x : Int), .slice A n cap] 27) #[.int .i64 k, .int .i64 u, .int .i64 v, .int .u64 (x : Int)] 24).below hb)
  have hbw : Below w.heap.size w w1 := hb0.trans (hb.mono hb0.size)
  have HLn := Lib.hid (HL.out.later hbw); clear HL; have HL := HLn; clear HLn
  have BB := Lib.hid hbw
  clear hb hbw hb0
  generalize w.heap.size + 1 = bo at VO ⊢
  obtain ⟨_, o0, o1, o2, o3⟩ : bo < w1.heap.size ∧ w1.cell? ⟨bo, 0, none⟩ = some (.int .i64 k) ∧ w1.cell? ⟨bo, 1, none⟩ = some (.int .i64 u) ∧ w1.cell? ⟨bo, 2, none⟩ = some (.int .i64 v) ∧ w1.cell? ⟨bo, 3, none⟩ = some (.int .u64 (x : Int)) := ⟨VO.out.1, VO.out.2.1 0 _ rfl, VO.out.2.1 1 _ rfl, VO.out.2.1 2 _ rfl, VO.out.2.1 3 _ rfl⟩
  go_wp2_with (go_at_call 10; (with_reducible refine (HDM _).mono ?_); rintro e w2 ⟨rfl, rfl⟩)
  go_ret
  exact ⟨rfl, BB.out⟩

set_option maxRecDepth 100000 in
set_option maxHeartbeats 8000000 in
theorem walkB (t c me k u v : Int) (x : Nat) (A : Option Addr) (n cap : Nat) (log : List Res) (hm : mayB t c = true) (hme : 0 ≤ me) (hmt : me < t) (hn : 60 < n) (w : World) (HL : Hid (LogAt w A n log)) :
    Calls Try.prog 3 #[.agg #[.int .i64 t, .int .i64 c, .int .i64 me, .int .i64 k, .int .i64 u, .int .i64 v, .int .u64 (x : Int), .slice A n cap]] w fun e w' => e = .returned (.bool true) ∧ Below w.heap.size w w' := by
  have HDM := fun w => dims_any t c w
  rw [hm] at HDM
  have t1 : decide (me < 0) = false := decide_eq_false (by omega)
  have t2 : decide (t ≤ me) = false := decide_eq_false (by omega)
  have d1 : decide ((60 : Int) < (n : Int)) = true := by rw [decide_eq_true_iff]; omega
  have d1' : decide (60 < n) = true := by rw [decide_eq_true_iff]; omega
  go_enter Try.func3, Try.ntmps3
  go_wp2_with fail
  (with_reducible refine (epcShown _).mono ?_)
  rintro e w1 ⟨rfl, hb⟩
  have hb0 := below_pair w (.cells #[.int .i64 t, .int .i64 c, .int .i64 me, .int .i64 k, .int .i64 u, .int .i64 v, .int .u64 (x : Int), .slice A n cap] 27) (.cells #[.int .i64 k, .int .i64 u, .int .i64 v, .int .u64 (x : Int)] 24)
  have VO := Lib.hid ((VarAt.made1 w (.cells #[.int .i64 t, .int .i64 c, .int .i64 me, .int .i64 k, .int .i64 u, .int .i64 v, .int .u64 (x : Int), .slice A n cap] 27) #[.int .i64 k, .int .i64 u, .int .i64 v, .int .u64 (x : Int)] 24).below hb)
  have hbw : Below w.heap.size w w1 := hb0.trans (hb.mono hb0.size)
  have HLn := Lib.hid (HL.out.later hbw); clear HL; have HL := HLn; clear HLn
  have BB := Lib.hid hbw
  clear hb hbw hb0
  generalize w.heap.size + 1 = bo at VO ⊢
  obtain ⟨_, o0, o1, o2, o3⟩ : bo < w1.heap.size ∧ w1.cell? ⟨bo, 0, none⟩ = some (.int .i64 k) ∧ w1.cell? ⟨bo, 1, none⟩ = some (.int .i64 u) ∧ w1.cell? ⟨bo, 2, none⟩ = some (.int .i64 v) ∧ w1.cell? ⟨bo, 3, none⟩ = some (.int .u64 (x : Int)) := ⟨VO.out.1, VO.out.2.1 0 _ rfl, VO.out.2.1 1 _ rfl, VO.out.2.1 2 _ rfl, VO.out.2.1 3 _ rfl⟩
  go_wp2_with (go_at_call 10; (with_reducible refine (HDM _).mono ?_); rintro e w2 ⟨rfl, rfl⟩)
  go_ret
  exact ⟨rfl, BB.out⟩

set_option maxRecDepth 100000 in
set_option maxHeartbeats 8000000 in
theorem walkC (t c me k u v : Int) (x : Nat) (A : Option Addr) (n cap : Nat) (log : List Res) (hm : mayB t c = true) (hme : 0 ≤ me) (hmt : me < t) (hn : n ≤ 60) (hk : k = 5) (hu : u < 1) (w : World) (HL : Hid (LogAt w A n log)) :
    Calls Try.prog 3 #[.agg #[.int .i64 t, .int .i64 c, .int .i64 me, .int .i64 k, .int .i64 u, .int .i64 v, .int .u64 (x : Int), .slice A n cap]] w fun e w' => e = .returned (.bool true) ∧ Below w.heap.size w w' := by
  have HDM := fun w => dims_any t c w
  rw [hm] at HDM
  have t1 : decide (me < 0) = false := decide_eq_false (by omega)
  have t2 : decide (t ≤ me) = false := decide_eq_false (by omega)
  have d1 : decide ((60 : Int) < (n : Int)) = false := by rw [decide_eq_false_iff_not]; omega
  have d1' : decide (60 < n) = false := by rw [decide_eq_false_iff_not]; omega
  subst hk
  have d2 : decide (u < 1) = true := decide_eq_true hu
  go_enter Try.func3, Try.ntmps3
  go_wp2_with fail
  (with_reducible refine (epcShown _).mono ?_)
  rintro e w1 ⟨rfl, hb⟩
  have hb0 := below_pair w (.cells #[.int .i64 t, .int .i64 c, .int .i64 me, .int .i64 5, .int .i64 u, .int .i64 v, .int .u64 (x : Int), .slice A n cap] 27) (.cells #[.int .i64 5, .int .i64 u, .int .i64 v, .int .u64 (x : Int)] 24)
  have VO := Lib.hid ((VarAt.made1 w (.cells #[.int .i64 t, .int .i64 c, .int .i64 me, .int .i64 5, .int .i64 u, .int .i64 v, .int .u64 (x : Int), .slice A n cap] 27) #[.int .i64 5, .int .i64 u, .int .i64 v, .int .u64 (x : Int)] 24).below hb)
  have hbw : Below w.heap.size w w1 := hb0.trans (hb.mono hb0.size)
  have HLn := Lib.hid (HL.out.later hbw); clear HL; have HL := HLn; clear HLn
  have BB := Lib.hid hbw
  clear hb hbw hb0
  generalize w.heap.size + 1 = bo at VO ⊢
  obtain ⟨_, o0, o1, o2, o3⟩ : bo < w1.heap.size ∧ w1.cell? ⟨bo, 0, none⟩ = some (.int .i64 5) ∧ w1.cell? ⟨bo, 1, none⟩ = some (.int .i64 u) ∧ w1.cell? ⟨bo, 2, none⟩ = some (.int .i64 v) ∧ w1.cell? ⟨bo, 3, none⟩ = some (.int .u64 (x : Int)) := ⟨VO.out.1, VO.out.2.1 0 _ rfl, VO.out.2.1 1 _ rfl, VO.out.2.1 2 _ rfl, VO.out.2.1 3 _ rfl⟩
  go_wp2_with (go_at_call 10; (with_reducible refine (HDM _).mono ?_); rintro e w2 ⟨rfl, rfl⟩)
  go_ret
  exact ⟨rfl, BB.out⟩

set_option maxRecDepth 100000 in
set_option maxHeartbeats 8000000 in
theorem walkD (t c me k u v : Int) (x : Nat) (A : Option Addr) (n cap : Nat) (log : List Res) (hm : mayB t c = true) (hme : 0 ≤ me) (hmt : me < t) (hn : n ≤ 60) (hk : k = 5) (hu : 1 ≤ u) (huc : c < u) (w : World) (HL : Hid (LogAt w A n log)) :
    Calls Try.prog 3 #[.agg #[.int .i64 t, .int .i64 c, .int .i64 me, .int .i64 k, .int .i64 u, .int .i64 v, .int .u64 (x : Int), .slice A n cap]] w fun e w' => e = .returned (.bool true) ∧ Below w.heap.size w w' := by
  have HDM := fun w => dims_any t c w
  rw [hm] at HDM
  have t1 : decide (me < 0) = false := decide_eq_false (by omega)
  have t2 : decide (t ≤ me) = false := decide_eq_false (by omega)
  have d1 : decide ((60 : Int) < (n : Int)) = false := by rw [decide_eq_false_iff_not]; omega
  have d1' : decide (60 < n) = false := by rw [decide_eq_false_iff_not]; omega
  subst hk
  have d2 : decide (u < 1) = false := decide_eq_false (by omega)
  have d3 : decide (c < u) = true := decide_eq_true huc
  go_enter Try.func3, Try.ntmps3
  go_wp2_with fail
  (with_reducible refine (epcShown _).mono ?_)
  rintro e w1 ⟨rfl, hb⟩
  have hb0 := below_pair w (.cells #[.int .i64 t, .int .i64 c, .int .i64 me, .int .i64 5, .int .i64 u, .int .i64 v, .int .u64 (x : Int), .slice A n cap] 27) (.cells #[.int .i64 5, .int .i64 u, .int .i64 v, .int .u64 (x : Int)] 24)
  have VO := Lib.hid ((VarAt.made1 w (.cells #[.int .i64 t, .int .i64 c, .int .i64 me, .int .i64 5, .int .i64 u, .int .i64 v, .int .u64 (x : Int), .slice A n cap] 27) #[.int .i64 5, .int .i64 u, .int .i64 v, .int .u64 (x : Int)] 24).below hb)
  have hbw : Below w.heap.size w w1 := hb0.trans (hb.mono hb0.size)
  have HLn := Lib.hid (HL.out.later hbw); clear HL; have HL := HLn; clear HLn
  have BB := Lib.hid hbw
  clear hb hbw hb0
  generalize w.heap.size + 1 = bo at VO ⊢
  obtain ⟨_, o0, o1, o2, o3⟩ : bo < w1.heap.size ∧ w1.cell? ⟨bo, 0, none⟩ = some (.int .i64 5) ∧ w1.cell? ⟨bo, 1, none⟩ = some (.int .i64 u) ∧ w1.cell? ⟨bo, 2, none⟩ = some (.int .i64 v) ∧ w1.cell? ⟨bo, 3, none⟩ = some (.int .u64 (x : Int)) := ⟨VO.out.1, VO.out.2.1 0 _ rfl, VO.out.2.1 1 _ rfl, VO.out.2.1 2 _ rfl, VO.out.2.1 3 _ rfl⟩
  go_wp2_with (go_at_call 10; (with_reducible refine (HDM _).mono ?_); rintro e w2 ⟨rfl, rfl⟩)
  go_ret
  exact ⟨rfl, BB.out⟩

theorem asksZ (w : World) : Calls Try.prog 13 #[.agg #[.int .i64 0, .int .i64 0, .int .u64 0, .int .u64 0, .slice none 0 0, .slice none 0 0], .agg #[.int .i64 0, .int .i64 0, .int .u64 0, .int .u64 0, .slice none 0 0, .slice none 0 0]] w (Kept w (.bool true)) := asks_same Acc.zero none 0 none 0 none 0 none 0 w (Lib.hid (AccP.zero w)) (Lib.hid (AccP.zero w))

set_option maxRecDepth 100000 in
set_option maxHeartbeats 8000000 in
theorem walkDone (t c me k u v : Int) (x : Nat) (A : Option Addr) (n cap : Nat) (log : List Res) (tn : Nat) (ht : t = (tn : Int)) (ht1 : tn ≤ 64) (hc1 : c ≤ 65536) (mn : Nat) (hme : me = (mn : Int)) (hmt : mn < tn) (hm : mayB t c = true) (hn : n ≤ 60) (hcap : n ≤ cap) (hk : ¬ k = 5) (r : Nat) (s : List Res) (hR : eNextR tn mn k u log = .done r s) (w : World) (HL : Hid (LogAt w A n log)) :
    Calls Try.prog 3 #[.agg #[.int .i64 t, .int .i64 c, .int .i64 me, .int .i64 k, .int .i64 u, .int .i64 v, .int .u64 (x : Int), .slice A n cap]] w fun e w' => e = .returned (.bool true) ∧ Below w.heap.size w w' := by
  have HDM := fun w => dims_any t c w
  rw [hm] at HDM
  have d1 : decide ((60 : Int) < (n : Int)) = false := by rw [decide_eq_false_iff_not]; omega
  have d1' : decide (60 < n) = false := by rw [decide_eq_false_iff_not]; omega
  have d2 : (k == 5) = false := by rw [beq_eq_false_iff_ne]; exact hk
  subst ht
  subst hme
  have t1 : decide ((mn : Int) < 0) = false := decide_eq_false (by omega)
  have t2 : decide ((tn : Int) ≤ (mn : Int)) = false := decide_eq_false (by omega)
  have HRN := fun w hl => rNext_at tn ht1 mn (by omega) k u v x (fun h => absurd h hk) A n cap log hcap w hl
  have HN := fun w hl => eNext_done tn ht1 mn (by omega) c k u v x (fun h => absurd h hk) A n cap log hcap w hl r s hR
  have hE : eNextRun tn mn k u log = .done r s := hR
  rw [hE] at HRN
  unfold eTell ToldE.val at HRN
  simp only at HRN
  generalize eErr k = er at *
  generalize eIs k r = oi at *
  generalize ((eN k r : Nat) : Int) = NN at *
  clear hE
  have HRN' : ∀ w, Hid (LogAt w A n log) → Calls Try.prog 12 #[.int .i64 (tn : Int), .int .i64 (mn : Int), .agg #[.int .i64 k, .int .i64 u, .int .i64 v, .int .u64 (x : Int)], .slice A n cap] w (Kept w (.tuple #[.agg #[.int .i64 0, .int .i64 0, .int .u64 0, .int .u64 0, .slice none 0 0, .slice none 0 0], .agg #[.int .i64 er, .bool oi, .int .i64 NN, .int .u64 0, .slice none 0 0], .bool true])) := HRN
  have HM := Lib.hid (And.intro ht1 hc1)
  clear hR hn hcap HRN ht1 hc1 hk
  go_enter Try.func3, Try.ntmps3
  go_wp2_with fail
  (with_reducible refine (epcShown _).mono ?_)
  rintro e w1 ⟨rfl, hb⟩
  have hb0 := below_pair w (.cells #[.int .i64 (tn : Int), .int .i64 c, .int .i64 (mn : Int), .int .i64 k, .int .i64 u, .int .i64 v, .int .u64 (x : Int), .slice A n cap] 27) (.cells #[.int .i64 k, .int .i64 u, .int .i64 v, .int .u64 (x : Int)] 24)
  have VO := Lib.hid ((VarAt.made1 w (.cells #[.int .i64 (tn : Int), .int .i64 c, .int .i64 (mn : Int), .int .i64 k, .int .i64 u, .int .i64 v, .int .u64 (x : Int), .slice A n cap] 27) #[.int .i64 k, .int .i64 u, .int .i64 v, .int .u64 (x : Int)] 24).below hb)
  have hbw : Below w.heap.size w w1 := hb0.trans (hb.mono hb0.size)
  have HLn := Lib.hid (HL.out.later hbw); clear HL; have HL := HLn; clear HLn
  have BB := Lib.hid hbw
  clear hb hbw hb0
  generalize w.heap.size + 1 = bo at VO ⊢
  obtain ⟨_, o0, o1, o2, o3⟩ : bo < w1.heap.size ∧ w1.cell? ⟨bo, 0, none⟩ = some (.int .i64 k) ∧ w1.cell? ⟨bo, 1, none⟩ = some (.int .i64 u) ∧ w1.cell? ⟨bo, 2, none⟩ = some (.int .i64 v) ∧ w1.cell? ⟨bo, 3, none⟩ = some (.int .u64 (x : Int)) := ⟨VO.out.1, VO.out.2.1 0 _ rfl, VO.out.2.1 1 _ rfl, VO.out.2.1 2 _ rfl, VO.out.2.1 3 _ rfl⟩
  go_wp2_with (go_at_call 10; (with_reducible refine (HDM _).mono ?_); rintro e w2 ⟨rfl, rfl⟩)
  (with_reducible refine (HN _ HL).mono ?_)
  clear HN
  rintro e w3 ⟨rfl, hb3⟩
  go_upto_region 10 with fail
  have hbx3 : Below w3.heap.size w3 ((w3.alloc (.cells #[.int .i64 0, .int .i64 0, .int .u64 0, .int .u64 0, .slice none 0 0, .slice none 0 0] 33)).alloc (.cells #[.int .i64 er, .bool oi, .int .i64 NN, .int .u64 0, .slice none 0 0] 37)) := below_pair _ _ _
  have V3 := Lib.hid ((VarAt.made w3 #[.int .i64 0, .int .i64 0, .int .u64 0, .int .u64 0, .slice none 0 0, .slice none 0 0] 33).below (al_below _ (.cells #[.int .i64 er, .bool oi, .int .i64 NN, .int .u64 0, .slice none 0 0] 37)))
  have O3 := Lib.hid (VarAt.made1 w3 (.cells #[.int .i64 0, .int .i64 0, .int .u64 0, .int .u64 0, .slice none 0 0, .slice none 0 0] 33) #[.int .i64 er, .bool oi, .int .i64 NN, .int .u64 0, .slice none 0 0] 37)
  have hbn3 := hb3.trans (hbx3.mono hb3.size)
  generalize (w3.alloc (.cells #[.int .i64 0, .int .i64 0, .int .u64 0, .int .u64 0, .slice none 0 0, .slice none 0 0] 33)).alloc (.cells #[.int .i64 er, .bool oi, .int .i64 NN, .int .u64 0, .slice none 0 0] 37) = x3 at hbx3 V3 O3 hbn3 ⊢
  generalize w3.heap.size = b3 at V3 O3 ⊢
  have HLn := Lib.hid (HL.out.later hbn3); clear HL; have HL := HLn; clear HLn
  have VOn := Lib.hid (VO.out.below hbn3); clear VO; have VO := VOn; clear VOn
  have BBn := Lib.hid (BB.out.trans (hbn3.mono BB.out.size)); clear BB; have BB := BBn; clear BBn
  clear hb3 hbx3 hbn3 o0 o1 o2 o3
  obtain ⟨_, o0, o1, o2, o3⟩ : bo < x3.heap.size ∧ x3.cell? ⟨bo, 0, none⟩ = some (.int .i64 k) ∧ x3.cell? ⟨bo, 1, none⟩ = some (.int .i64 u) ∧ x3.cell? ⟨bo, 2, none⟩ = some (.int .i64 v) ∧ x3.cell? ⟨bo, 3, none⟩ = some (.int .u64 (x : Int)) := ⟨VO.out.1, VO.out.2.1 0 _ rfl, VO.out.2.1 1 _ rfl, VO.out.2.1 2 _ rfl, VO.out.2.1 3 _ rfl⟩
  go_wp2_with fail
  (with_reducible refine (HRN' _ HL).mono ?_)
  clear HRN'
  rintro e w4 ⟨rfl, hb4⟩
  go_upto_region 11 with fail
  have hbx4 : Below w4.heap.size w4 ((w4.alloc (.cells #[.int .i64 0, .int .i64 0, .int .u64 0, .int .u64 0, .slice none 0 0, .slice none 0 0] 33)).alloc (.cells #[.int .i64 er, .bool oi, .int .i64 NN, .int .u64 0, .slice none 0 0] 37)) := below_pair _ _ _
  have V4 := Lib.hid ((VarAt.made w4 #[.int .i64 0, .int .i64 0, .int .u64 0, .int .u64 0, .slice none 0 0, .slice none 0 0] 33).below (al_below _ (.cells #[.int .i64 er, .bool oi, .int .i64 NN, .int .u64 0, .slice none 0 0] 37)))
  have O4 := Lib.hid (VarAt.made1 w4 (.cells #[.int .i64 0, .int .i64 0, .int .u64 0, .int .u64 0, .slice none 0 0, .slice none 0 0] 33) #[.int .i64 er, .bool oi, .int .i64 NN, .int .u64 0, .slice none 0 0] 37)
  have hbn4 := hb4.trans (hbx4.mono hb4.size)
  generalize (w4.alloc (.cells #[.int .i64 0, .int .i64 0, .int .u64 0, .int .u64 0, .slice none 0 0, .slice none 0 0] 33)).alloc (.cells #[.int .i64 er, .bool oi, .int .i64 NN, .int .u64 0, .slice none 0 0] 37) = x4 at hbx4 V4 O4 hbn4 ⊢
  generalize w4.heap.size = b4 at V4 O4 ⊢
  have V3n := Lib.hid (V3.out.below hbn4); clear V3; have V3 := V3n; clear V3n
  have O3n := Lib.hid (O3.out.below hbn4); clear O3; have O3 := O3n; clear O3n
  have BBn := Lib.hid (BB.out.trans (hbn4.mono BB.out.size)); clear BB; have BB := BBn; clear BBn
  clear hb4 hbx4 hbn4 o0 o1 o2 o3
  obtain ⟨_, ⟨a0, a1, a2, a3, a4, a5⟩, _⟩ := V3.out.six
  obtain ⟨_, ⟨b0, b1, b2, b3', b4', b5⟩, _⟩ := V4.out.six
  go_wp2_with fail
  (with_reducible refine (asksZ _).mono ?_)
  rintro e w5 ⟨rfl, hb5⟩
  obtain ⟨_, ⟨r1, r2, r3, r4, r5⟩, _⟩ := (O3.out.below hb5).five
  obtain ⟨_, ⟨q1, q2, q3, q4, q5⟩, _⟩ := (O4.out.below hb5).five
  have BBn := Lib.hid (BB.out.trans (hb5.mono BB.out.size)); clear BB; have BB := BBn; clear BBn
  clear hb5 a0 a1 a2 a3 a4 a5 b0 b1 b2 b3' b4' b5
  go_wp2_with fail
  (with_reducible refine (outsI_same er oi NN 0 _).mono ?_)
  rintro e w6 ⟨rfl, hb6⟩
  have BBn := Lib.hid (BB.out.trans (hb6.mono BB.out.size)); clear BB; have BB := BBn; clear BBn
  clear hb6
  go_wp2_with fail
  go_ret
  exact ⟨rfl, BB.out⟩

set_option maxRecDepth 100000 in
set_option maxHeartbeats 8000000 in
theorem walkLeft (t c me k u v : Int) (x : Nat) (A : Option Addr) (n cap : Nat) (log : List Res) (tn : Nat) (ht : t = (tn : Int)) (ht1 : tn ≤ 64) (hc1 : c ≤ 65536) (mn : Nat) (hme : me = (mn : Int)) (hmt : mn < tn) (hm : mayB t c = true) (hn : n ≤ 60) (hcap : n ≤ cap) (hk : ¬ k = 5) (K i : Int) (a b : Nat) (hR : eNextR tn mn k u log = .left K i a b) (w : World) (HL : Hid (LogAt w A n log)) :
    Calls Try.prog 3 #[.agg #[.int .i64 t, .int .i64 c, .int .i64 me, .int .i64 k, .int .i64 u, .int .i64 v, .int .u64 (x : Int), .slice A n cap]] w fun e w' => e = .returned (.bool true) ∧ Below w.heap.size w w' := by
  have HDM := fun w => dims_any t c w
  rw [hm] at HDM
  have d1 : decide ((60 : Int) < (n : Int)) = false := by rw [decide_eq_false_iff_not]; omega
  have d1' : decide (60 < n) = false := by rw [decide_eq_false_iff_not]; omega
  have d2 : (k == 5) = false := by rw [beq_eq_false_iff_ne]; exact hk
  subst ht
  subst hme
  have t1 : decide ((mn : Int) < 0) = false := decide_eq_false (by omega)
  have t2 : decide ((tn : Int) ≤ (mn : Int)) = false := decide_eq_false (by omega)
  have HRN := fun w hl => rNext_at tn ht1 mn (by omega) k u v x (fun h => absurd h hk) A n cap log hcap w hl
  have HN : ∀ w, Hid (LogAt w A n log) → Calls Try.prog 11 #[.int .i64 (tn : Int), .int .i64 c, .int .i64 (mn : Int), .agg #[.int .i64 k, .int .i64 u, .int .i64 v, .int .u64 (x : Int)], .slice A n cap] w (fun e w' => ∃ D dc E ec, e = .returned (.tuple #[.agg #[.int .i64 K, .int .i64 i, .int .u64 (a : Int), .int .u64 (b : Int), .slice D 0 dc, .slice E 0 ec], .agg #[.int .i64 0, .bool false, .int .i64 0, .int .u64 0, .slice none 0 0], .bool false]) ∧ AccP w' (accK K i a b) D dc E ec ∧ Below w.heap.size w w') :=
    fun w hl => (eNext_left tn ht1 mn (by omega) c k u v x (fun h => absurd h hk) A n cap log hcap w hl K i a b hR).mono (fun e w' ⟨D, dc, E, ec, he, hX, hb, _, _⟩ => ⟨D, dc, E, ec, he, hX, hb⟩)
  have hE : eNextRun tn mn k u log = .left K i a b := hR
  rw [hE] at HRN
  unfold eTell ToldE.val at HRN
  simp only at HRN
  clear hE
  have HRN' : ∀ w, Hid (LogAt w A n log) → Calls Try.prog 12 #[.int .i64 (tn : Int), .int .i64 (mn : Int), .agg #[.int .i64 k, .int .i64 u, .int .i64 v, .int .u64 (x : Int)], .slice A n cap] w (Kept w (.tuple #[.agg #[.int .i64 K, .int .i64 i, .int .u64 (a : Int), .int .u64 (b : Int), .slice none 0 0, .slice none 0 0], .agg #[.int .i64 0, .bool false, .int .i64 0, .int .u64 0, .slice none 0 0], .bool false])) := HRN
  have HM := Lib.hid (And.intro ht1 hc1)
  clear hR hn hcap HRN ht1 hc1 hk
  go_enter Try.func3, Try.ntmps3
  go_wp2_with fail
  (with_reducible refine (epcShown _).mono ?_)
  rintro e w1 ⟨rfl, hb⟩
  have hb0 := below_pair w (.cells #[.int .i64 (tn : Int), .int .i64 c, .int .i64 (mn : Int), .int .i64 k, .int .i64 u, .int .i64 v, .int .u64 (x : Int), .slice A n cap] 27) (.cells #[.int .i64 k, .int .i64 u, .int .i64 v, .int .u64 (x : Int)] 24)
  have VO := Lib.hid ((VarAt.made1 w (.cells #[.int .i64 (tn : Int), .int .i64 c, .int .i64 (mn : Int), .int .i64 k, .int .i64 u, .int .i64 v, .int .u64 (x : Int), .slice A n cap] 27) #[.int .i64 k, .int .i64 u, .int .i64 v, .int .u64 (x : Int)] 24).below hb)
  have hbw : Below w.heap.size w w1 := hb0.trans (hb.mono hb0.size)
  have HLn := Lib.hid (HL.out.later hbw); clear HL; have HL := HLn; clear HLn
  have BB := Lib.hid hbw
  clear hb hbw hb0
  generalize w.heap.size + 1 = bo at VO ⊢
  obtain ⟨_, o0, o1, o2, o3⟩ : bo < w1.heap.size ∧ w1.cell? ⟨bo, 0, none⟩ = some (.int .i64 k) ∧ w1.cell? ⟨bo, 1, none⟩ = some (.int .i64 u) ∧ w1.cell? ⟨bo, 2, none⟩ = some (.int .i64 v) ∧ w1.cell? ⟨bo, 3, none⟩ = some (.int .u64 (x : Int)) := ⟨VO.out.1, VO.out.2.1 0 _ rfl, VO.out.2.1 1 _ rfl, VO.out.2.1 2 _ rfl, VO.out.2.1 3 _ rfl⟩
  go_wp2_with (go_at_call 10; (with_reducible refine (HDM _).mono ?_); rintro e w2 ⟨rfl, rfl⟩)
  (with_reducible refine (HN _ HL).mono ?_)
  clear HN
  rintro e w3 ⟨D3, dc3, E3, ec3, rfl, hX3, hb3⟩
  have HAK : ∀ w, AccP w (accK K i a b) D3 dc3 E3 ec3 → Calls Try.prog 13 #[.agg #[.int .i64 K, .int .i64 i, .int .u64 (a : Int), .int .u64 (b : Int), .slice D3 0 dc3, .slice E3 0 ec3], .agg #[.int .i64 K, .int .i64 i, .int .u64 (a : Int), .int .u64 (b : Int), .slice none 0 0, .slice none 0 0]] w (Kept w (.bool true)) := fun w hp => asks_same (accK K i a b) D3 dc3 E3 ec3 none 0 none 0 w (Lib.hid hp) (Lib.hid (accK_P ⟨hX3.k, hX3.c, hX3.a, hX3.b⟩ w))
  have hX3' : AccP w3 (accK K i a b) D3 dc3 E3 ec3 := hX3
  clear hX3
  go_upto_region 10 with fail
  have hbx3 : Below w3.heap.size w3 ((w3.alloc (.cells #[.int .i64 K, .int .i64 i, .int .u64 (a : Int), .int .u64 (b : Int), .slice D3 0 dc3, .slice E3 0 ec3] 33)).alloc (.cells #[.int .i64 0, .bool false, .int .i64 0, .int .u64 0, .slice none 0 0] 37)) := below_pair _ _ _
  have V3 := Lib.hid ((VarAt.made w3 #[.int .i64 K, .int .i64 i, .int .u64 (a : Int), .int .u64 (b : Int), .slice D3 0 dc3, .slice E3 0 ec3] 33).below (al_below _ (.cells #[.int .i64 0, .bool false, .int .i64 0, .int .u64 0, .slice none 0 0] 37)))
  have O3 := Lib.hid (VarAt.made1 w3 (.cells #[.int .i64 K, .int .i64 i, .int .u64 (a : Int), .int .u64 (b : Int), .slice D3 0 dc3, .slice E3 0 ec3] 33) #[.int .i64 0, .bool false, .int .i64 0, .int .u64 0, .slice none 0 0] 37)
  have hbn3 := hb3.trans (hbx3.mono hb3.size)
  generalize (w3.alloc (.cells #[.int .i64 K, .int .i64 i, .int .u64 (a : Int), .int .u64 (b : Int), .slice D3 0 dc3, .slice E3 0 ec3] 33)).alloc (.cells #[.int .i64 0, .bool false, .int .i64 0, .int .u64 0, .slice none 0 0] 37) = x3 at hbx3 V3 O3 hbn3 ⊢
  generalize w3.heap.size = b3 at V3 O3 ⊢
  have HLn := Lib.hid (HL.out.later hbn3); clear HL; have HL := HLn; clear HLn
  have VOn := Lib.hid (VO.out.below hbn3); clear VO; have VO := VOn; clear VOn
  have BBn := Lib.hid (BB.out.trans (hbn3.mono BB.out.size)); clear BB; have BB := BBn; clear BBn
  have P3 := Lib.hid (hX3'.later hbx3)
  clear hX3'
  clear hb3 hbx3 hbn3 o0 o1 o2 o3
  obtain ⟨_, o0, o1, o2, o3⟩ : bo < x3.heap.size ∧ x3.cell? ⟨bo, 0, none⟩ = some (.int .i64 k) ∧ x3.cell? ⟨bo, 1, none⟩ = some (.int .i64 u) ∧ x3.cell? ⟨bo, 2, none⟩ = some (.int .i64 v) ∧ x3.cell? ⟨bo, 3, none⟩ = some (.int .u64 (x : Int)) := ⟨VO.out.1, VO.out.2.1 0 _ rfl, VO.out.2.1 1 _ rfl, VO.out.2.1 2 _ rfl, VO.out.2.1 3 _ rfl⟩
  go_wp2_with fail
  (with_reducible refine (HRN' _ HL).mono ?_)
  clear HRN'
  rintro e w4 ⟨rfl, hb4⟩
  go_upto_region 11 with fail
  have hbx4 : Below w4.heap.size w4 ((w4.alloc (.cells #[.int .i64 K, .int .i64 i, .int .u64 (a : Int), .int .u64 (b : Int), .slice none 0 0, .slice none 0 0] 33)).alloc (.cells #[.int .i64 0, .bool false, .int .i64 0, .int .u64 0, .slice none 0 0] 37)) := below_pair _ _ _
  have V4 := Lib.hid ((VarAt.made w4 #[.int .i64 K, .int .i64 i, .int .u64 (a : Int), .int .u64 (b : Int), .slice none 0 0, .slice none 0 0] 33).below (al_below _ (.cells #[.int .i64 0, .bool false, .int .i64 0, .int .u64 0, .slice none 0 0] 37)))
  have O4 := Lib.hid (VarAt.made1 w4 (.cells #[.int .i64 K, .int .i64 i, .int .u64 (a : Int), .int .u64 (b : Int), .slice none 0 0, .slice none 0 0] 33) #[.int .i64 0, .bool false, .int .i64 0, .int .u64 0, .slice none 0 0] 37)
  have hbn4 := hb4.trans (hbx4.mono hb4.size)
  generalize (w4.alloc (.cells #[.int .i64 K, .int .i64 i, .int .u64 (a : Int), .int .u64 (b : Int), .slice none 0 0, .slice none 0 0] 33)).alloc (.cells #[.int .i64 0, .bool false, .int .i64 0, .int .u64 0, .slice none 0 0] 37) = x4 at hbx4 V4 O4 hbn4 ⊢
  generalize w4.heap.size = b4 at V4 O4 ⊢
  have V3n := Lib.hid (V3.out.below hbn4); clear V3; have V3 := V3n; clear V3n
  have O3n := Lib.hid (O3.out.below hbn4); clear O3; have O3 := O3n; clear O3n
  have P3n := Lib.hid (P3.out.later hbn4); clear P3; have P3 := P3n; clear P3n
  have BBn := Lib.hid (BB.out.trans (hbn4.mono BB.out.size)); clear BB; have BB := BBn; clear BBn
  clear hb4 hbx4 hbn4 o0 o1 o2 o3
  obtain ⟨_, ⟨a0, a1, a2, a3, a4, a5⟩, _⟩ := V3.out.six
  obtain ⟨_, ⟨b0, b1, b2, b3', b4', b5⟩, _⟩ := V4.out.six
  go_wp2_with fail
  (with_reducible refine (HAK _ P3.out).mono ?_)
  rintro e w5 ⟨rfl, hb5⟩
  obtain ⟨_, ⟨r1, r2, r3, r4, r5⟩, _⟩ := (O3.out.below hb5).five
  obtain ⟨_, ⟨q1, q2, q3, q4, q5⟩, _⟩ := (O4.out.below hb5).five
  have BBn := Lib.hid (BB.out.trans (hb5.mono BB.out.size)); clear BB; have BB := BBn; clear BBn
  clear hb5 a0 a1 a2 a3 a4 a5 b0 b1 b2 b3' b4' b5
  go_wp2_with fail
  (with_reducible refine (outsI_same 0 false 0 0 _).mono ?_)
  rintro e w6 ⟨rfl, hb6⟩
  have BBn := Lib.hid (BB.out.trans (hb6.mono BB.out.size)); clear BB; have BB := BBn; clear BBn
  clear hb6
  go_wp2_with fail
  go_ret
  exact ⟨rfl, BB.out⟩

set_option maxRecDepth 100000 in
set_option maxHeartbeats 8000000 in
theorem walkDoneP (t c me k u v : Int) (x : Nat) (A : Option Addr) (n cap : Nat) (log : List Res) (tn : Nat) (ht : t = (tn : Int)) (ht1 : tn ≤ 64) (hc1 : c ≤ 65536) (mn : Nat) (hme : me = (mn : Int)) (hmt : mn < tn) (hm : mayB t c = true) (hn : n ≤ 60) (hcap : n ≤ cap) (hk : k = 5) (hu1 : 1 ≤ u) (huc : u ≤ c) (r : Nat) (s : List Res) (hR : eNextR tn mn k u log = .done r s) (w : World) (HL : Hid (LogAt w A n log)) :
    Calls Try.prog 3 #[.agg #[.int .i64 t, .int .i64 c, .int .i64 me, .int .i64 k, .int .i64 u, .int .i64 v, .int .u64 (x : Int), .slice A n cap]] w fun e w' => e = .returned (.bool true) ∧ Below w.heap.size w w' := by
  have HDM := fun w => dims_any t c w
  rw [hm] at HDM
  have d1 : decide ((60 : Int) < (n : Int)) = false := by rw [decide_eq_false_iff_not]; omega
  have d1' : decide (60 < n) = false := by rw [decide_eq_false_iff_not]; omega
  subst hk
  have d2 : decide (u < 1) = false := decide_eq_false (by omega)
  have d3 : decide (c < u) = false := decide_eq_false (by omega)
  subst ht
  subst hme
  have t1 : decide ((mn : Int) < 0) = false := decide_eq_false (by omega)
  have t2 : decide ((tn : Int) ≤ (mn : Int)) = false := decide_eq_false (by omega)
  have HRN := fun w hl => rNext_at tn ht1 mn (by omega) 5 u v x (fun _ => ⟨by omega, by omega⟩) A n cap log hcap w hl
  have HN := fun w hl => eNext_done tn ht1 mn (by omega) c 5 u v x (fun _ => ⟨by omega, by omega⟩) A n cap log hcap w hl r s hR
  have hE : eNextRun tn mn 5 u log = .done r s := hR
  rw [hE] at HRN
  unfold eTell ToldE.val at HRN
  simp only at HRN
  generalize eErr 5 = er at *
  generalize eIs 5 r = oi at *
  generalize ((eN 5 r : Nat) : Int) = NN at *
  clear hE
  have HRN' : ∀ w, Hid (LogAt w A n log) → Calls Try.prog 12 #[.int .i64 (tn : Int), .int .i64 (mn : Int), .agg #[.int .i64 5, .int .i64 u, .int .i64 v, .int .u64 (x : Int)], .slice A n cap] w (Kept w (.tuple #[.agg #[.int .i64 0, .int .i64 0, .int .u64 0, .int .u64 0, .slice none 0 0, .slice none 0 0], .agg #[.int .i64 er, .bool oi, .int .i64 NN, .int .u64 0, .slice none 0 0], .bool true])) := HRN
  have HM := Lib.hid (And.intro ht1 hc1)
  clear hR hn hcap HRN ht1 hc1
  go_enter Try.func3, Try.ntmps3
  go_wp2_with fail
  (with_reducible refine (epcShown _).mono ?_)
  rintro e w1 ⟨rfl, hb⟩
  have hb0 := below_pair w (.cells #[.int .i64 (tn : Int), .int .i64 c, .int .i64 (mn : Int), .int .i64 5, .int .i64 u, .int .i64 v, .int .u64 (x : Int), .slice A n cap] 27) (.cells #[.int .i64 5, .int .i64 u, .int .i64 v, .int .u64 (x : Int)] 24)
  have VO := Lib.hid ((VarAt.made1 w (.cells #[.int .i64 (tn : Int), .int .i64 c, .int .i64 (mn : Int), .int .i64 5, .int .i64 u, .int .i64 v, .int .u64 (x : Int), .slice A n cap] 27) #[.int .i64 5, .int .i64 u, .int .i64 v, .int .u64 (x : Int)] 24).below hb)
  have hbw : Below w.heap.size w w1 := hb0.trans (hb.mono hb0.size)
  have HLn := Lib.hid (HL.out.later hbw); clear HL; have HL := HLn; clear HLn
  have BB := Lib.hid hbw
  clear hb hbw hb0
  generalize w.heap.size + 1 = bo at VO ⊢
  obtain ⟨_, o0, o1, o2, o3⟩ : bo < w1.heap.size ∧ w1.cell? ⟨bo, 0, none⟩ = some (.int .i64 5) ∧ w1.cell? ⟨bo, 1, none⟩ = some (.int .i64 u) ∧ w1.cell? ⟨bo, 2, none⟩ = some (.int .i64 v) ∧ w1.cell? ⟨bo, 3, none⟩ = some (.int .u64 (x : Int)) := ⟨VO.out.1, VO.out.2.1 0 _ rfl, VO.out.2.1 1 _ rfl, VO.out.2.1 2 _ rfl, VO.out.2.1 3 _ rfl⟩
  go_wp2_with (go_at_call 10; (with_reducible refine (HDM _).mono ?_); rintro e w2 ⟨rfl, rfl⟩)
  (with_reducible refine (HN _ HL).mono ?_)
  clear HN
  rintro e w3 ⟨rfl, hb3⟩
  go_upto_region 10 with fail
  have hbx3 : Below w3.heap.size w3 ((w3.alloc (.cells #[.int .i64 0, .int .i64 0, .int .u64 0, .int .u64 0, .slice none 0 0, .slice none 0 0] 33)).alloc (.cells #[.int .i64 er, .bool oi, .int .i64 NN, .int .u64 0, .slice none 0 0] 37)) := below_pair _ _ _
  have V3 := Lib.hid ((VarAt.made w3 #[.int .i64 0, .int .i64 0, .int .u64 0, .int .u64 0, .slice none 0 0, .slice none 0 0] 33).below (al_below _ (.cells #[.int .i64 er, .bool oi, .int .i64 NN, .int .u64 0, .slice none 0 0] 37)))
  have O3 := Lib.hid (VarAt.made1 w3 (.cells #[.int .i64 0, .int .i64 0, .int .u64 0, .int .u64 0, .slice none 0 0, .slice none 0 0] 33) #[.int .i64 er, .bool oi, .int .i64 NN, .int .u64 0, .slice none 0 0] 37)
  have hbn3 := hb3.trans (hbx3.mono hb3.size)
  generalize (w3.alloc (.cells #[.int .i64 0, .int .i64 0, .int .u64 0, .int .u64 0, .slice none 0 0, .slice none 0 0] 33)).alloc (.cells #[.int .i64 er, .bool oi, .int .i64 NN, .int .u64 0, .slice none 0 0] 37) = x3 at hbx3 V3 O3 hbn3 ⊢
  generalize w3.heap.size = b3 at V3 O3 ⊢
  have HLn := Lib.hid (HL.out.later hbn3); clear HL; have HL := HLn; clear HLn
  have VOn := Lib.hid (VO.out.below hbn3); clear VO; have VO := VOn; clear VOn
  have BBn := Lib.hid (BB.out.trans (hbn3.mono BB.out.size)); clear BB; have BB := BBn; clear BBn
  clear hb3 hbx3 hbn3 o0 o1 o2 o3
  obtain ⟨_, o0, o1, o2, o3⟩ : bo < x3.heap.size ∧ x3.cell? ⟨bo, 0, none⟩ = some (.int .i64 5) ∧ x3.cell? ⟨bo, 1, none⟩ = some (.int .i64 u) ∧ x3.cell? ⟨bo, 2, none⟩ = some (.int .i64 v) ∧ x3.cell? ⟨bo, 3, none⟩ = some (.int .u64 (x : Int)) := ⟨VO.out.1, VO.out.2.1 0 _ rfl, VO.out.2.1 1 _ rfl, VO.out.2.1 2 _ rfl, VO.out.2.1 3 _ rfl⟩
  go_wp2_with fail
  (with_reducible refine (HRN' _ HL).mono ?_)
  clear HRN'
  rintro e w4 ⟨rfl, hb4⟩
  go_upto_region 11 with fail
  have hbx4 : Below w4.heap.size w4 ((w4.alloc (.cells #[.int .i64 0, .int .i64 0, .int .u64 0, .int .u64 0, .slice none 0 0, .slice none 0 0] 33)).alloc (.cells #[.int .i64 er, .bool oi, .int .i64 NN, .int .u64 0, .slice none 0 0] 37)) := below_pair _ _ _
  have V4 := Lib.hid ((VarAt.made w4 #[.int .i64 0, .int .i64 0, .int .u64 0, .int .u64 0, .slice none 0 0, .slice none 0 0] 33).below (al_below _ (.cells #[.int .i64 er, .bool oi, .int .i64 NN, .int .u64 0, .slice none 0 0] 37)))
  have O4 := Lib.hid (VarAt.made1 w4 (.cells #[.int .i64 0, .int .i64 0, .int .u64 0, .int .u64 0, .slice none 0 0, .slice none 0 0] 33) #[.int .i64 er, .bool oi, .int .i64 NN, .int .u64 0, .slice none 0 0] 37)
  have hbn4 := hb4.trans (hbx4.mono hb4.size)
  generalize (w4.alloc (.cells #[.int .i64 0, .int .i64 0, .int .u64 0, .int .u64 0, .slice none 0 0, .slice none 0 0] 33)).alloc (.cells #[.int .i64 er, .bool oi, .int .i64 NN, .int .u64 0, .slice none 0 0] 37) = x4 at hbx4 V4 O4 hbn4 ⊢
  generalize w4.heap.size = b4 at V4 O4 ⊢
  have V3n := Lib.hid (V3.out.below hbn4); clear V3; have V3 := V3n; clear V3n
  have O3n := Lib.hid (O3.out.below hbn4); clear O3; have O3 := O3n; clear O3n
  have BBn := Lib.hid (BB.out.trans (hbn4.mono BB.out.size)); clear BB; have BB := BBn; clear BBn
  clear hb4 hbx4 hbn4 o0 o1 o2 o3
  obtain ⟨_, ⟨a0, a1, a2, a3, a4, a5⟩, _⟩ := V3.out.six
  obtain ⟨_, ⟨b0, b1, b2, b3', b4', b5⟩, _⟩ := V4.out.six
  go_wp2_with fail
  (with_reducible refine (asksZ _).mono ?_)
  rintro e w5 ⟨rfl, hb5⟩
  obtain ⟨_, ⟨r1, r2, r3, r4, r5⟩, _⟩ := (O3.out.below hb5).five
  obtain ⟨_, ⟨q1, q2, q3, q4, q5⟩, _⟩ := (O4.out.below hb5).five
  have BBn := Lib.hid (BB.out.trans (hb5.mono BB.out.size)); clear BB; have BB := BBn; clear BBn
  clear hb5 a0 a1 a2 a3 a4 a5 b0 b1 b2 b3' b4' b5
  go_wp2_with fail
  (with_reducible refine (outsI_same er oi NN 0 _).mono ?_)
  rintro e w6 ⟨rfl, hb6⟩
  have BBn := Lib.hid (BB.out.trans (hb6.mono BB.out.size)); clear BB; have BB := BBn; clear BBn
  clear hb6
  go_wp2_with fail
  go_ret
  exact ⟨rfl, BB.out⟩

set_option maxRecDepth 100000 in
set_option maxHeartbeats 8000000 in
theorem walkLeftP (t c me k u v : Int) (x : Nat) (A : Option Addr) (n cap : Nat) (log : List Res) (tn : Nat) (ht : t = (tn : Int)) (ht1 : tn ≤ 64) (hc1 : c ≤ 65536) (mn : Nat) (hme : me = (mn : Int)) (hmt : mn < tn) (hm : mayB t c = true) (hn : n ≤ 60) (hcap : n ≤ cap) (hk : k = 5) (hu1 : 1 ≤ u) (huc : u ≤ c) (K i : Int) (a b : Nat) (hR : eNextR tn mn k u log = .left K i a b) (w : World) (HL : Hid (LogAt w A n log)) :
    Calls Try.prog 3 #[.agg #[.int .i64 t, .int .i64 c, .int .i64 me, .int .i64 k, .int .i64 u, .int .i64 v, .int .u64 (x : Int), .slice A n cap]] w fun e w' => e = .returned (.bool true) ∧ Below w.heap.size w w' := by
  have HDM := fun w => dims_any t c w
  rw [hm] at HDM
  have d1 : decide ((60 : Int) < (n : Int)) = false := by rw [decide_eq_false_iff_not]; omega
  have d1' : decide (60 < n) = false := by rw [decide_eq_false_iff_not]; omega
  subst hk
  have d2 : decide (u < 1) = false := decide_eq_false (by omega)
  have d3 : decide (c < u) = false := decide_eq_false (by omega)
  subst ht
  subst hme
  have t1 : decide ((mn : Int) < 0) = false := decide_eq_false (by omega)
  have t2 : decide ((tn : Int) ≤ (mn : Int)) = false := decide_eq_false (by omega)
  have HRN := fun w hl => rNext_at tn ht1 mn (by omega) 5 u v x (fun _ => ⟨by omega, by omega⟩) A n cap log hcap w hl
  have HN : ∀ w, Hid (LogAt w A n log) → Calls Try.prog 11 #[.int .i64 (tn : Int), .int .i64 c, .int .i64 (mn : Int), .agg #[.int .i64 5, .int .i64 u, .int .i64 v, .int .u64 (x : Int)], .slice A n cap] w (fun e w' => ∃ D dc E ec, e = .returned (.tuple #[.agg #[.int .i64 K, .int .i64 i, .int .u64 (a : Int), .int .u64 (b : Int), .slice D 0 dc, .slice E 0 ec], .agg #[.int .i64 0, .bool false, .int .i64 0, .int .u64 0, .slice none 0 0], .bool false]) ∧ AccP w' (accK K i a b) D dc E ec ∧ Below w.heap.size w w') :=
    fun w hl => (eNext_left tn ht1 mn (by omega) c 5 u v x (fun _ => ⟨by omega, by omega⟩) A n cap log hcap w hl K i a b hR).mono (fun e w' ⟨D, dc, E, ec, he, hX, hb, _, _⟩ => ⟨D, dc, E, ec, he, hX, hb⟩)
  have hE : eNextRun tn mn 5 u log = .left K i a b := hR
  rw [hE] at HRN
  unfold eTell ToldE.val at HRN
  simp only at HRN
  clear hE
  have HRN' : ∀ w, Hid (LogAt w A n log) → Calls Try.prog 12 #[.int .i64 (tn : Int), .int .i64 (mn : Int), .agg #[.int .i64 5, .int .i64 u, .int .i64 v, .int .u64 (x : Int)], .slice A n cap] w (Kept w (.tuple #[.agg #[.int .i64 K, .int .i64 i, .int .u64 (a : Int), .int .u64 (b : Int), .slice none 0 0, .slice none 0 0], .agg #[.int .i64 0, .bool false, .int .i64 0, .int .u64 0, .slice none 0 0], .bool false])) := HRN
  have HM := Lib.hid (And.intro ht1 hc1)
  clear hR hn hcap HRN ht1 hc1
  go_enter Try.func3, Try.ntmps3
  go_wp2_with fail
  (with_reducible refine (epcShown _).mono ?_)
  rintro e w1 ⟨rfl, hb⟩
  have hb0 := below_pair w (.cells #[.int .i64 (tn : Int), .int .i64 c, .int .i64 (mn : Int), .int .i64 5, .int .i64 u, .int .i64 v, .int .u64 (x : Int), .slice A n cap] 27) (.cells #[.int .i64 5, .int .i64 u, .int .i64 v, .int .u64 (x : Int)] 24)
  have VO := Lib.hid ((VarAt.made1 w (.cells #[.int .i64 (tn : Int), .int .i64 c, .int .i64 (mn : Int), .int .i64 5, .int .i64 u, .int .i64 v, .int .u64 (x : Int), .slice A n cap] 27) #[.int .i64 5, .int .i64 u, .int .i64 v, .int .u64 (x : Int)] 24).below hb)
  have hbw : Below w.heap.size w w1 := hb0.trans (hb.mono hb0.size)
  have HLn := Lib.hid (HL.out.later hbw); clear HL; have HL := HLn; clear HLn
  have BB := Lib.hid hbw
  clear hb hbw hb0
  generalize w.heap.size + 1 = bo at VO ⊢
  obtain ⟨_, o0, o1, o2, o3⟩ : bo < w1.heap.size ∧ w1.cell? ⟨bo, 0, none⟩ = some (.int .i64 5) ∧ w1.cell? ⟨bo, 1, none⟩ = some (.int .i64 u) ∧ w1.cell? ⟨bo, 2, none⟩ = some (.int .i64 v) ∧ w1.cell? ⟨bo, 3, none⟩ = some (.int .u64 (x : Int)) := ⟨VO.out.1, VO.out.2.1 0 _ rfl, VO.out.2.1 1 _ rfl, VO.out.2.1 2 _ rfl, VO.out.2.1 3 _ rfl⟩
  go_wp2_with (go_at_call 10; (with_reducible refine (HDM _).mono ?_); rintro e w2 ⟨rfl, rfl⟩)
  (with_reducible refine (HN _ HL).mono ?_)
  clear HN
  rintro e w3 ⟨D3, dc3, E3, ec3, rfl, hX3, hb3⟩
  have HAK : ∀ w, AccP w (accK K i a b) D3 dc3 E3 ec3 → Calls Try.prog 13 #[.agg #[.int .i64 K, .int .i64 i, .int .u64 (a : Int), .int .u64 (b : Int), .slice D3 0 dc3, .slice E3 0 ec3], .agg #[.int .i64 K, .int .i64 i, .int .u64 (a : Int), .int .u64 (b : Int), .slice none 0 0, .slice none 0 0]] w (Kept w (.bool true)) := fun w hp => asks_same (accK K i a b) D3 dc3 E3 ec3 none 0 none 0 w (Lib.hid hp) (Lib.hid (accK_P ⟨hX3.k, hX3.c, hX3.a, hX3.b⟩ w))
  have hX3' : AccP w3 (accK K i a b) D3 dc3 E3 ec3 := hX3
  clear hX3
  go_upto_region 10 with fail
  have hbx3 : Below w3.heap.size w3 ((w3.alloc (.cells #[.int .i64 K, .int .i64 i, .int .u64 (a : Int), .int .u64 (b : Int), .slice D3 0 dc3, .slice E3 0 ec3] 33)).alloc (.cells #[.int .i64 0, .bool false, .int .i64 0, .int .u64 0, .slice none 0 0] 37)) := below_pair _ _ _
  have V3 := Lib.hid ((VarAt.made w3 #[.int .i64 K, .int .i64 i, .int .u64 (a : Int), .int .u64 (b : Int), .slice D3 0 dc3, .slice E3 0 ec3] 33).below (al_below _ (.cells #[.int .i64 0, .bool false, .int .i64 0, .int .u64 0, .slice none 0 0] 37)))
  have O3 := Lib.hid (VarAt.made1 w3 (.cells #[.int .i64 K, .int .i64 i, .int .u64 (a : Int), .int .u64 (b : Int), .slice D3 0 dc3, .slice E3 0 ec3] 33) #[.int .i64 0, .bool false, .int .i64 0, .int .u64 0, .slice none 0 0] 37)
  have hbn3 := hb3.trans (hbx3.mono hb3.size)
  generalize (w3.alloc (.cells #[.int .i64 K, .int .i64 i, .int .u64 (a : Int), .int .u64 (b : Int), .slice D3 0 dc3, .slice E3 0 ec3] 33)).alloc (.cells #[.int .i64 0, .bool false, .int .i64 0, .int .u64 0, .slice none 0 0] 37) = x3 at hbx3 V3 O3 hbn3 ⊢
  generalize w3.heap.size = b3 at V3 O3 ⊢
  have HLn := Lib.hid (HL.out.later hbn3); clear HL; have HL := HLn; clear HLn
  have VOn := Lib.hid (VO.out.below hbn3); clear VO; have VO := VOn; clear VOn
  have BBn := Lib.hid (BB.out.trans (hbn3.mono BB.out.size)); clear BB; have BB := BBn; clear BBn
  have P3 := Lib.hid (hX3'.later hbx3)
  clear hX3'
  clear hb3 hbx3 hbn3 o0 o1 o2 o3
  obtain ⟨_, o0, o1, o2, o3⟩ : bo < x3.heap.size ∧ x3.cell? ⟨bo, 0, none⟩ = some (.int .i64 5) ∧ x3.cell? ⟨bo, 1, none⟩ = some (.int .i64 u) ∧ x3.cell? ⟨bo, 2, none⟩ = some (.int .i64 v) ∧ x3.cell? ⟨bo, 3, none⟩ = some (.int .u64 (x : Int)) := ⟨VO.out.1, VO.out.2.1 0 _ rfl, VO.out.2.1 1 _ rfl, VO.out.2.1 2 _ rfl, VO.out.2.1 3 _ rfl⟩
  go_wp2_with fail
  (with_reducible refine (HRN' _ HL).mono ?_)
  clear HRN'
  rintro e w4 ⟨rfl, hb4⟩
  go_upto_region 11 with fail
  have hbx4 : Below w4.heap.size w4 ((w4.alloc (.cells #[.int .i64 K, .int .i64 i, .int .u64 (a : Int), .int .u64 (b : Int), .slice none 0 0, .slice none 0 0] 33)).alloc (.cells #[.int .i64 0, .bool false, .int .i64 0, .int .u64 0, .slice none 0 0] 37)) := below_pair _ _ _
  have V4 := Lib.hid ((VarAt.made w4 #[.int .i64 K, .int .i64 i, .int .u64 (a : Int), .int .u64 (b : Int), .slice none 0 0, .slice none 0 0] 33).below (al_below _ (.cells #[.int .i64 0, .bool false, .int .i64 0, .int .u64 0, .slice none 0 0] 37)))
  have O4 := Lib.hid (VarAt.made1 w4 (.cells #[.int .i64 K, .int .i64 i, .int .u64 (a : Int), .int .u64 (b : Int), .slice none 0 0, .slice none 0 0] 33) #[.int .i64 0, .bool false, .int .i64 0, .int .u64 0, .slice none 0 0] 37)
  have hbn4 := hb4.trans (hbx4.mono hb4.size)
  generalize (w4.alloc (.cells #[.int .i64 K, .int .i64 i, .int .u64 (a : Int), .int .u64 (b : Int), .slice none 0 0, .slice none 0 0] 33)).alloc (.cells #[.int .i64 0, .bool false, .int .i64 0, .int .u64 0, .slice none 0 0] 37) = x4 at hbx4 V4 O4 hbn4 ⊢
  generalize w4.heap.size = b4 at V4 O4 ⊢
  have V3n := Lib.hid (V3.out.below hbn4); clear V3; have V3 := V3n; clear V3n
  have O3n := Lib.hid (O3.out.below hbn4); clear O3; have O3 := O3n; clear O3n
  have P3n := Lib.hid (P3.out.later hbn4); clear P3; have P3 := P3n; clear P3n
  have BBn := Lib.hid (BB.out.trans (hbn4.mono BB.out.size)); clear BB; have BB := BBn; clear BBn
  clear hb4 hbx4 hbn4 o0 o1 o2 o3
  obtain ⟨_, ⟨a0, a1, a2, a3, a4, a5⟩, _⟩ := V3.out.six
  obtain ⟨_, ⟨b0, b1, b2, b3', b4', b5⟩, _⟩ := V4.out.six
  go_wp2_with fail
  (with_reducible refine (HAK _ P3.out).mono ?_)
  rintro e w5 ⟨rfl, hb5⟩
  obtain ⟨_, ⟨r1, r2, r3, r4, r5⟩, _⟩ := (O3.out.below hb5).five
  obtain ⟨_, ⟨q1, q2, q3, q4, q5⟩, _⟩ := (O4.out.below hb5).five
  have BBn := Lib.hid (BB.out.trans (hb5.mono BB.out.size)); clear BB; have BB := BBn; clear BBn
  clear hb5 a0 a1 a2 a3 a4 a5 b0 b1 b2 b3' b4' b5
  go_wp2_with fail
  (with_reducible refine (outsI_same 0 false 0 0 _).mono ?_)
  rintro e w6 ⟨rfl, hb6⟩
  have BBn := Lib.hid (BB.out.trans (hb6.mono BB.out.size)); clear BB; have BB := BBn; clear BBn
  clear hb6
  go_wp2_with fail
  go_ret
  exact ⟨rfl, BB.out⟩
section
set_option maxRecDepth 100000
set_option maxHeartbeats 2000000
variable {H : Type} {enc : TypeId × Value → H} {w : World}
theorem open_a {v : Value} {d : DataW H} {ps : List MemPlace} {base : Nat} (hval : Value.okWide Try.prog w .any base 27 v) (h : DataW.Trod enc Try.prog w 0 (fun _ => true) true 27 v d ps) (hs : Sized Try.prog 27 d) (hlt : ∀ z ∈ ps, z.block < w.heap.size) :
    ∃ (aT : Int) (aC : Int) (aMe : Int) (aOpKind : Int) (aOpU : Int) (aOpV : Int) (aOpW : Nat) (aLogA : Option Addr) (aLogL aLogC : Nat) (aLogl : List Res), v = .agg #[.int .i64 aT, .int .i64 aC, .int .i64 aMe, .int .i64 aOpKind, .int .i64 aOpU, .int .i64 aOpV, .int .u64 (aOpW : Int), .slice aLogA aLogL aLogC] ∧ (-9223372036854775808 ≤ aT ∧ aT < 9223372036854775808) ∧ (-9223372036854775808 ≤ aC ∧ aC < 9223372036854775808) ∧ (-9223372036854775808 ≤ aMe ∧ aMe < 9223372036854775808) ∧ (-9223372036854775808 ≤ aOpKind ∧ aOpKind < 9223372036854775808) ∧ (-9223372036854775808 ≤ aOpU ∧ aOpU < 9223372036854775808) ∧ (-9223372036854775808 ≤ aOpV ∧ aOpV < 9223372036854775808) ∧ aOpW < 18446744073709551616 ∧ (aLogL ≤ aLogC ∧ LogAt w aLogA aLogL aLogl) := by
  obtain ⟨cs, rfl, hsz⟩ := okWide_struct Try.underlying27 hval
  obtain ⟨fuel, hf⟩ := h
  have hcs : (Value.agg cs).cells.toList = cs.toList := rfl
  rw [hcs] at hf
  have hcl : cs.toList.length = 8 := by rw [Array.length_toList, hsz]; kernel_rfl
  obtain ⟨c0, c1, c2, c3, c4, c5, c6, c7, hL⟩ : ∃ c0 c1 c2 c3 c4 c5 c6 c7, cs.toList = [c0, c1, c2, c3, c4, c5, c6, c7] := ⟨_, _, _, _, _, _, _, _, cells_of hcl .nilIface⟩
  rw [hL] at hf
  rw [list_agg hL]
  clear hcl hL hsz hcs
  obtain ⟨y0, n0, g0, s0, q0⟩ := field_at Try.underlying27 hf 0 _ rfl 3 0 1 [c0] rfl rfl (by kernel_rfl) rfl hs hlt
  obtain ⟨aT, e1, haT⟩ := leaf_i64 Try.underlying3 g0
  cases e1
  obtain ⟨y2, n2, g2, s2, q2⟩ := field_at Try.underlying27 hf 1 _ rfl 3 1 1 [c1] rfl rfl (by kernel_rfl) rfl hs hlt
  obtain ⟨aC, e3, haC⟩ := leaf_i64 Try.underlying3 g2
  cases e3
  obtain ⟨y4, n4, g4, s4, q4⟩ := field_at Try.underlying27 hf 2 _ rfl 3 2 1 [c2] rfl rfl (by kernel_rfl) rfl hs hlt
  obtain ⟨aMe, e5, haMe⟩ := leaf_i64 Try.underlying3 g4
  cases e5
  obtain ⟨y6, n6, g6, s6, q6⟩ := field_at Try.underlying27 hf 3 _ rfl 24 3 4 [c3, c4, c5, c6] rfl rfl (by kernel_rfl) rfl hs hlt
  obtain ⟨y7, n7, g7, s7, q7⟩ := field_at Try.underlying24 g6 0 _ rfl 3 0 1 [c3] rfl rfl (by kernel_rfl) rfl s6 q6
  obtain ⟨aOpKind, e8, haOpKind⟩ := leaf_i64 Try.underlying3 g7
  cases e8
  obtain ⟨y9, n9, g9, s9, q9⟩ := field_at Try.underlying24 g6 1 _ rfl 3 1 1 [c4] rfl rfl (by kernel_rfl) rfl s6 q6
  obtain ⟨aOpU, e10, haOpU⟩ := leaf_i64 Try.underlying3 g9
  cases e10
  obtain ⟨y11, n11, g11, s11, q11⟩ := field_at Try.underlying24 g6 2 _ rfl 3 2 1 [c5] rfl rfl (by kernel_rfl) rfl s6 q6
  obtain ⟨aOpV, e12, haOpV⟩ := leaf_i64 Try.underlying3 g11
  cases e12
  obtain ⟨y13, n13, g13, s13, q13⟩ := field_at Try.underlying24 g6 3 _ rfl 22 3 1 [c6] rfl rfl (by kernel_rfl) rfl s6 q6
  obtain ⟨aOpW, e14, haOpW⟩ := leaf_u64 Try.underlying22 g13
  cases e14
  obtain ⟨y15, n15, g15, s15, q15⟩ := field_at Try.underlying27 hf 4 _ rfl 25 7 1 [c7] rfl rfl (by kernel_rfl) rfl hs hlt
  obtain ⟨aLogA, aLogL, aLogC, aLogl, e16, haLog⟩ := leaf_logs g15 s15 q15
  cases e16
  exact ⟨aT, aC, aMe, aOpKind, aOpU, aOpV, aOpW, aLogA, aLogL, aLogC, aLogl, rfl, haT, haC, haMe, haOpKind, haOpU, haOpV, haOpW, haLog⟩
end

set_option maxRecDepth 100000 in
set_option maxHeartbeats 8000000 in
theorem lifted (os : Os) (started : os.Started) (H : Type) (enc : TypeId × Value → H) :
    ReturnsInHanded {} Try.checked os 3 .any (Rows.epochNextSpec.pre6 enc Try.prog Try.f3 Rows.epochNextRow.domain false) (Rows.epochNextSpec.post enc Try.prog Try.f3 false true false false) := by
  refine law_lifted (C := Try.checked) own started (by kernel_rfl) Try.func3
    (ChangeSpec.witness6 (enc := enc) (C := Try.checked) false ⟨#[], #[.agg #[.int .i64 0, .int .i64 0, .int .i64 0, .int .i64 0, .int .i64 0, .int .i64 0, .int .u64 0, .slice none 0 0]], []⟩ 8 (by kernel_rfl) (by kernel_rfl) (by kernel_rfl) (by kernel_rfl))
    (by kernel_rfl) (by kernel_rfl) Try.underlying4 rfl (by kernel_rfl) ?_
  intro W base args ds before hval hA hwt hlt
  have hA' : DataW.TrodAll enc Try.prog W 0 (fun _ => true) true Try.f3.params.toList args.toList ds before := hA
  have hval' : ∀ (j : Nat) t v, Try.f3.params[j]? = some t → args[j]? = some v → Value.okWide Try.prog W .any base t v := hval
  have hwt' : (DataW.weightsEach Try.prog Try.f3.params.toList ds).all (· ≤ reachBytes) = true := hwt
  rw [Try.params3] at hA' hval' hwt'
  obtain ⟨v0, vs0, d0, ds0, p0, q0, hargs, rfl, rfl, k0, r0⟩ := trodAll_cons hA'
  obtain ⟨rfl, rfl, rfl⟩ := trodAll_nil r0
  obtain rfl : args = #[v0] := by cases args; simp_all
  obtain ⟨aT, aC, aMe, aOpKind, aOpU, aOpV, aOpW, aLogA, aLogL, aLogC, aLogl, rfl, haT, haC, haMe, haOpKind, haOpU, haOpV, haOpW, haLog⟩ := open_a (hval' 0 27 v0 rfl rfl) k0 (sized_of hwt' (j := 0) (t := 27) rfl rfl) (fun x hx => hlt x (by simp [hx]))
  refine ⟨rfl, ?_⟩
  obtain ⟨hlc, hlat⟩ := haLog
  by_cases hm : mayB aT aC = true
  case neg => exact walkA aT aC aMe aOpKind aOpU aOpV aOpW aLogA aLogL aLogC aLogl (by simpa using hm) W (Lib.hid hlat)
  by_cases hme : aMe < 0
  · exact walkA2 aT aC aMe aOpKind aOpU aOpV aOpW aLogA aLogL aLogC aLogl hm hme W (Lib.hid hlat)
  by_cases hmt : aT ≤ aMe
  · exact walkA3 aT aC aMe aOpKind aOpU aOpV aOpW aLogA aLogL aLogC aLogl hm (by omega) hmt W (Lib.hid hlat)
  by_cases hn : 60 < aLogL
  · exact walkB aT aC aMe aOpKind aOpU aOpV aOpW aLogA aLogL aLogC aLogl hm (by omega) (by omega) hn W (Lib.hid hlat)
  obtain ⟨tn, cn, ht, hc, t1, t2, c1⟩ := mayB_iff hm
  obtain ⟨mn, hmn⟩ : ∃ mn : Nat, aMe = (mn : Int) := ⟨aMe.toNat, by omega⟩
  by_cases hk : aOpKind = 5
  · by_cases hu : aOpU < 1
    · exact walkC aT aC aMe aOpKind aOpU aOpV aOpW aLogA aLogL aLogC aLogl hm (by omega) (by omega) (by omega) hk hu W (Lib.hid hlat)
    by_cases huc : aC < aOpU
    · exact walkD aT aC aMe aOpKind aOpU aOpV aOpW aLogA aLogL aLogC aLogl hm (by omega) (by omega) (by omega) hk (by omega) huc W (Lib.hid hlat)
    cases hR : eNextR tn mn aOpKind aOpU aLogl with
    | bad => exact absurd hR (eNextR_ok _ _ _ _ _)
    | done r s => exact walkDoneP aT aC aMe aOpKind aOpU aOpV aOpW aLogA aLogL aLogC aLogl tn ht t2 (by omega) mn hmn (by omega) hm (by omega) hlc hk (by omega) (by omega) r s hR W (Lib.hid hlat)
    | left K i a b => exact walkLeftP aT aC aMe aOpKind aOpU aOpV aOpW aLogA aLogL aLogC aLogl tn ht t2 (by omega) mn hmn (by omega) hm (by omega) hlc hk (by omega) (by omega) K i a b hR W (Lib.hid hlat)
  · cases hR : eNextR tn mn aOpKind aOpU aLogl with
    | bad => exact absurd hR (eNextR_ok _ _ _ _ _)
    | done r s => exact walkDone aT aC aMe aOpKind aOpU aOpV aOpW aLogA aLogL aLogC aLogl tn ht t2 (by omega) mn hmn (by omega) hm (by omega) hlc hk r s hR W (Lib.hid hlat)
    | left K i a b => exact walkLeft aT aC aMe aOpKind aOpU aOpV aOpW aLogA aLogL aLogC aLogl tn ht t2 (by omega) mn hmn (by omega) hm (by omega) hlc hk K i a b hR W (Lib.hid hlat)

theorem over : Rows.epochNextRow.holds Try.pinned (OpenSpec.ofChange Rows.epochNextSpec) :=
  OpenClaim.holds_of_wide 3 Try.f3 rfl rfl rfl rfl rfl rfl rfl ⟨rfl, rfl, rfl, rfl, rfl⟩ rfl rfl rfl rfl rfl (by kernel_rfl) Try.func3 (by kernel_rfl)
    (of_decide_eq_true (by kernel_rfl)) (by unfold Func.isWrapper; first | (rw [if_pos (by decide +kernel)]; kernel_rfl) | (rw [if_neg (by decide +kernel)]; exact ⟨rfl, rfl⟩))
    (fun os started H enc _ => lifted os started H enc)

/-- The statement. -/
theorem proved : Rows.EpochNextSaid :=
  over
#print axioms proved
end Go.Proofs.Ythcifknnppohfaa.epochNext
