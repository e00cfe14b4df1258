/-
  PlayTells: what a row of accesses asks next, or answers, is as the document says; for every 60 accesses, every 80 results. No condition beyond the statement's own.
-/
import Derived.Test.YtjbhichgojjakaaPlyShown
import Derived.Test.YtjbhichgojjakaaPlyLeaf
import Derived.Test.YtjbhichgojjakaaLaw
import Derived.Test.YtjbhichgojjakaaFields
import Derived.Deep.Cut
import Derived.Deep.CutRange
namespace Go.Proofs.Ytjbhichgojjakaa.playTells
open Go.ChangeShapes Go.WideShapes Go.ChangeAt Go.RowKit Go.Deep Go.BigFrame
set_option linter.unusedVariables false
theorem own : ownKnob Try.prog.godebug = none := by kernel_rfl

theorem asks_zero (w : World) : Calls Try.prog 16 #[.agg #[.int .i64 0, .int .i64 0, .int .u64 0, .int .u64 0, .slice none 0 0, .slice none 0 0], .agg #[.int .i64 0, .int .i64 0, .int .u64 0, .int .u64 0, .slice none 0 0, .slice none 0 0]] w (Kept w (.bool true)) := asks_same Acc.zero none 0 none 0 none 0 none 0 w (Lib.hid (AccP.zero w)) (Lib.hid (AccP.zero w))

set_option maxRecDepth 100000 in
set_option maxHeartbeats 8000000 in
theorem walkA (L : Option Addr) (ln lc : Nat) (l : List Acc) (A : Option Addr) (n cap : Nat) (log : List Res) (hf : fewA l ln 60 = false) (w : World) (HA : Hid (AccsAt w L ln l)) (HL : Hid (LogAt w A n log)) :
    Calls Try.prog 4 #[.slice L ln lc, .slice A n cap] w fun e w' => e = .returned (.bool true) ∧ Below w.heap.size w w' := by
  have HF : ∀ w, Hid (AccsAt w L ln l) → Calls Try.prog 13 #[.slice L ln lc, .int .i64 60] w fun e w' => e = .returned (.bool (fewA l ln 60)) ∧ w = w' := fun w h => fewA_at L ln lc l 60 (by omega) w h
  rw [hf] at HF
  go_enter Try.func4, Try.ntmps4
  go_wp2_with fail
  (with_reducible refine (playShown _).mono ?_)
  rintro e w1 ⟨rfl, hb⟩
  have HAn := Lib.hid (HA.out.later hb); clear HA; have HA := HAn; clear HAn
  have HLn := Lib.hid (HL.out.later hb); clear HL; have HL := HLn; clear HLn
  have BB := Lib.hid hb
  clear hb
  go_wp2_with (go_at_call 13; (with_reducible refine (HF _ HA).mono ?_); rintro e w2 ⟨rfl, rfl⟩)
  go_ret
  exact ⟨rfl, BB.out⟩

set_option maxRecDepth 100000 in
set_option maxHeartbeats 8000000 in
theorem walkB (L : Option Addr) (ln lc : Nat) (l : List Acc) (A : Option Addr) (n cap : Nat) (log : List Res) (hf : fewA l ln 60 = true) (h1 : 80 < n) (w : World) (HA : Hid (AccsAt w L ln l)) (HL : Hid (LogAt w A n log)) :
    Calls Try.prog 4 #[.slice L ln lc, .slice A n cap] w fun e w' => e = .returned (.bool true) ∧ Below w.heap.size w w' := by
  have HF : ∀ w, Hid (AccsAt w L ln l) → Calls Try.prog 13 #[.slice L ln lc, .int .i64 60] w fun e w' => e = .returned (.bool (fewA l ln 60)) ∧ w = w' := fun w h => fewA_at L ln lc l 60 (by omega) w h
  rw [hf] at HF
  have d1 : decide ((80 : Int) < (n : Int)) = true := by rw [decide_eq_true_iff]; omega
  have d1' : decide (80 < n) = true := by rw [decide_eq_true_iff]; omega
  go_enter Try.func4, Try.ntmps4
  go_wp2_with fail
  (with_reducible refine (playShown _).mono ?_)
  rintro e w1 ⟨rfl, hb⟩
  have HAn := Lib.hid (HA.out.later hb); clear HA; have HA := HAn; clear HAn
  have HLn := Lib.hid (HL.out.later hb); clear HL; have HL := HLn; clear HLn
  have BB := Lib.hid hb
  clear hb
  go_wp2_with (go_at_call 13; (with_reducible refine (HF _ HA).mono ?_); rintro e w2 ⟨rfl, rfl⟩)
  go_ret
  exact ⟨rfl, BB.out⟩

set_option maxRecDepth 100000 in
set_option maxHeartbeats 8000000 in
theorem walkYes (L : Option Addr) (ln lc : Nat) (l : List Acc) (A : Option Addr) (n cap : Nat) (log : List Res) (hf : fewA l ln 60 = true) (h1 : n ≤ 80) (hc : n ≤ cap) (hln : ln ≤ n) (w : World) (HA : Hid (AccsAt w L ln l)) (HL : Hid (LogAt w A n log)) :
    Calls Try.prog 4 #[.slice L ln lc, .slice A n cap] w fun e w' => e = .returned (.bool true) ∧ Below w.heap.size w w' := by
  have HF : ∀ w, Hid (AccsAt w L ln l) → Calls Try.prog 13 #[.slice L ln lc, .int .i64 60] w fun e w' => e = .returned (.bool (fewA l ln 60)) ∧ w = w' := fun w h => fewA_at L ln lc l 60 (by omega) w h
  rw [hf] at HF
  have d1 : decide ((80 : Int) < (n : Int)) = false := by rw [decide_eq_false_iff_not]; omega
  have d1' : decide (80 < n) = false := by rw [decide_eq_false_iff_not]; omega
  have hm : ∀ x ∈ l, x.m ≤ 1000000 := fun x hx => Nat.le_trans ((few_mem hf).2.2 x hx) (by omega)
  have HM := Lib.hid hm
  have HC := Lib.hid hc
  have HLN := Lib.hid hln
  clear hm hc hln h1
  go_enter Try.func4, Try.ntmps4
  go_wp2_with fail
  (with_reducible refine (playShown _).mono ?_)
  rintro e w1 ⟨rfl, hb⟩
  have HAn := Lib.hid (HA.out.later hb); clear HA; have HA := HAn; clear HAn
  have HLn := Lib.hid (HL.out.later hb); clear HL; have HL := HLn; clear HLn
  have BB := Lib.hid hb
  clear hb
  go_wp2_with (first | (go_at_call 13; (with_reducible refine (HF _ HA).mono ?_); rintro e w2 ⟨rfl, rfl⟩))
  (with_reducible refine (line_yes L ln lc l A n cap log HLN.out HC.out HM.out _ HA HL).mono ?_)
  rintro e w3 ⟨rfl, hb3⟩
  go_upto_region 5 with fail
  have hbx3 : Below w3.heap.size w3 ((w3.alloc (.cells #[.int .i64 0, .int .i64 0, .int .u64 0, .int .u64 0, .slice none 0 0, .slice none 0 0] 43)).alloc (.cells #[.int .i64 0, .bool false, .int .i64 (ln : Int), .int .u64 (sumR log ln : Int), .slice none 0 0] 52)) := below_pair _ _ _
  have V3 := Lib.hid ((VarAt.made w3 #[.int .i64 0, .int .i64 0, .int .u64 0, .int .u64 0, .slice none 0 0, .slice none 0 0] 43).below (al_below _ (.cells #[.int .i64 0, .bool false, .int .i64 (ln : Int), .int .u64 (sumR log ln : Int), .slice none 0 0] 52)))
  have O3 := Lib.hid (VarAt.made1 w3 (.cells #[.int .i64 0, .int .i64 0, .int .u64 0, .int .u64 0, .slice none 0 0, .slice none 0 0] 43) #[.int .i64 0, .bool false, .int .i64 (ln : Int), .int .u64 (sumR log ln : Int), .slice none 0 0] 52)
  generalize (w3.alloc (.cells #[.int .i64 0, .int .i64 0, .int .u64 0, .int .u64 0, .slice none 0 0, .slice none 0 0] 43)).alloc (.cells #[.int .i64 0, .bool false, .int .i64 (ln : Int), .int .u64 (sumR log ln : Int), .slice none 0 0] 52) = x3 at hbx3 V3 O3 ⊢
  have hbn3 := hb3.trans (hbx3.mono hb3.size)
  have HAn := Lib.hid (HA.out.later hbn3); clear HA; have HA := HAn; clear HAn
  have HLn := Lib.hid (HL.out.later hbn3); clear HL; have HL := HLn; clear HLn
  have BBn := Lib.hid (BB.out.trans (hbn3.mono BB.out.size)); clear BB; have BB := BBn; clear BBn
  clear hb3 hbx3 hbn3
  go_wp2_with fail
  (with_reducible refine (refLine_yes L ln lc l A n cap log HLN.out _ HA HL).mono ?_)
  rintro e w4 ⟨rfl, hb4⟩
  have V3n := Lib.hid (V3.out.below hb4); clear V3; have V3 := V3n; clear V3n
  have O3n := Lib.hid (O3.out.below hb4); clear O3; have O3 := O3n; clear O3n
  go_upto_region 6 with fail
  have hbx4 : Below w4.heap.size w4 ((w4.alloc (.cells #[.int .i64 0, .int .i64 0, .int .u64 0, .int .u64 0, .slice none 0 0, .slice none 0 0] 43)).alloc (.cells #[.int .i64 0, .bool false, .int .i64 (ln : Int), .int .u64 (sumR log ln : Int), .slice none 0 0] 52)) := below_pair _ _ _
  have V4 := Lib.hid ((VarAt.made w4 #[.int .i64 0, .int .i64 0, .int .u64 0, .int .u64 0, .slice none 0 0, .slice none 0 0] 43).below (al_below _ (.cells #[.int .i64 0, .bool false, .int .i64 (ln : Int), .int .u64 (sumR log ln : Int), .slice none 0 0] 52)))
  have O4 := Lib.hid (VarAt.made1 w4 (.cells #[.int .i64 0, .int .i64 0, .int .u64 0, .int .u64 0, .slice none 0 0, .slice none 0 0] 43) #[.int .i64 0, .bool false, .int .i64 (ln : Int), .int .u64 (sumR log ln : Int), .slice none 0 0] 52)
  generalize (w4.alloc (.cells #[.int .i64 0, .int .i64 0, .int .u64 0, .int .u64 0, .slice none 0 0, .slice none 0 0] 43)).alloc (.cells #[.int .i64 0, .bool false, .int .i64 (ln : Int), .int .u64 (sumR log ln : Int), .slice none 0 0] 52) = x4 at hbx4 V4 O4 ⊢
  have V3n := Lib.hid (V3.out.below hbx4); clear V3; have V3 := V3n; clear V3n
  have O3n := Lib.hid (O3.out.below hbx4); clear O3; have O3 := O3n; clear O3n
  have hbn4 := hb4.trans (hbx4.mono hb4.size)
  have HAn := Lib.hid (HA.out.later hbn4); clear HA; have HA := HAn; clear HAn
  have HLn := Lib.hid (HL.out.later hbn4); clear HL; have HL := HLn; clear HLn
  have BBn := Lib.hid (BB.out.trans (hbn4.mono BB.out.size)); clear BB; have BB := BBn; clear BBn
  clear hb4 hbx4 hbn4
  obtain ⟨_, ⟨a0, a1, a2, a3, a4, a5⟩, _⟩ := V3.out.six
  obtain ⟨_, ⟨b0, b1, b2, b3, b4, b5⟩, _⟩ := V4.out.six
  go_wp2_with fail
  (with_reducible refine (asks_zero _).mono ?_)
  rintro e w5 ⟨rfl, hb5⟩
  obtain ⟨_, ⟨r1, r2, r3, r4, r5⟩, _⟩ := (O3.out.below hb5).five
  obtain ⟨_, ⟨q1, q2, q3, q4, q5⟩, _⟩ := (O4.out.below hb5).five
  have BBn := Lib.hid (BB.out.trans (hb5.mono BB.out.size)); clear BB; have BB := BBn; clear BBn
  clear hb5 a0 a1 a2 a3 a4 a5 b0 b1 b2 b3 b4 b5
  go_wp2_with fail
  (with_reducible refine (outs_same _ _ _ _).mono ?_)
  rintro e w6 ⟨rfl, hb6⟩
  have BBn := Lib.hid (BB.out.trans (hb6.mono BB.out.size)); clear BB; have BB := BBn; clear BBn
  clear hb6
  go_wp2_with fail
  go_ret
  exact ⟨rfl, BB.out⟩

set_option maxRecDepth 100000 in
set_option maxHeartbeats 8000000 in
theorem walkNo (L : Option Addr) (ln lc : Nat) (l : List Acc) (A : Option Addr) (n cap : Nat) (log : List Res) (hf : fewA l ln 60 = true) (h1 : n ≤ 80) (hc : n ≤ cap) (hln : n < ln) (w : World) (HA : Hid (AccsAt w L ln l)) (HL : Hid (LogAt w A n log)) :
    Calls Try.prog 4 #[.slice L ln lc, .slice A n cap] w fun e w' => e = .returned (.bool true) ∧ Below w.heap.size w w' := by
  have HF : ∀ w, Hid (AccsAt w L ln l) → Calls Try.prog 13 #[.slice L ln lc, .int .i64 60] w fun e w' => e = .returned (.bool (fewA l ln 60)) ∧ w = w' := fun w h => fewA_at L ln lc l 60 (by omega) w h
  rw [hf] at HF
  have d1 : decide ((80 : Int) < (n : Int)) = false := by rw [decide_eq_false_iff_not]; omega
  have d1' : decide (80 < n) = false := by rw [decide_eq_false_iff_not]; omega
  have hm : ∀ x ∈ l, x.m ≤ 1000000 := fun x hx => Nat.le_trans ((few_mem hf).2.2 x hx) (by omega)
  have HM := Lib.hid hm
  have HC := Lib.hid hc
  have HLN := Lib.hid hln
  clear hm hc hln h1
  go_enter Try.func4, Try.ntmps4
  go_wp2_with fail
  (with_reducible refine (playShown _).mono ?_)
  rintro e w1 ⟨rfl, hb⟩
  have HAn := Lib.hid (HA.out.later hb); clear HA; have HA := HAn; clear HAn
  have HLn := Lib.hid (HL.out.later hb); clear HL; have HL := HLn; clear HLn
  have BB := Lib.hid hb
  clear hb
  go_wp2_with (first | (go_at_call 13; (with_reducible refine (HF _ HA).mono ?_); rintro e w2 ⟨rfl, rfl⟩))
  (with_reducible refine (line_no L ln lc l A n cap log HLN.out HC.out HM.out _ HA HL).mono ?_)
  have HRL := fun w h h' => refLine_no L ln lc l A n cap log HLN.out w h h'
  generalize l.getD n Acc.zero = x at HRL ⊢
  rintro e w3 ⟨D3, dc3, E3, ec3, rfl, hX3, hb3, _, _⟩
  go_upto_region 5 with fail
  have hbx3 : Below w3.heap.size w3 ((w3.alloc (.cells #[.int .i64 x.k, .int .i64 x.c, .int .u64 (x.a : Int), .int .u64 (x.b : Int), .slice D3 x.d.length dc3, .slice E3 x.m ec3] 43)).alloc (.cells #[.int .i64 0, .bool false, .int .i64 0, .int .u64 0, .slice none 0 0] 52)) := below_pair _ _ _
  have V3 := Lib.hid ((VarAt.made w3 #[.int .i64 x.k, .int .i64 x.c, .int .u64 (x.a : Int), .int .u64 (x.b : Int), .slice D3 x.d.length dc3, .slice E3 x.m ec3] 43).below (al_below _ (.cells #[.int .i64 0, .bool false, .int .i64 0, .int .u64 0, .slice none 0 0] 52)))
  have O3 := Lib.hid (VarAt.made1 w3 (.cells #[.int .i64 x.k, .int .i64 x.c, .int .u64 (x.a : Int), .int .u64 (x.b : Int), .slice D3 x.d.length dc3, .slice E3 x.m ec3] 43) #[.int .i64 0, .bool false, .int .i64 0, .int .u64 0, .slice none 0 0] 52)
  generalize (w3.alloc (.cells #[.int .i64 x.k, .int .i64 x.c, .int .u64 (x.a : Int), .int .u64 (x.b : Int), .slice D3 x.d.length dc3, .slice E3 x.m ec3] 43)).alloc (.cells #[.int .i64 0, .bool false, .int .i64 0, .int .u64 0, .slice none 0 0] 52) = x3 at hbx3 V3 O3 ⊢
  have hbn3 := hb3.trans (hbx3.mono hb3.size)
  have HAn := Lib.hid (HA.out.later hbn3); clear HA; have HA := HAn; clear HAn
  have HLn := Lib.hid (HL.out.later hbn3); clear HL; have HL := HLn; clear HLn
  have BBn := Lib.hid (BB.out.trans (hbn3.mono BB.out.size)); clear BB; have BB := BBn; clear BBn
  have P3 := Lib.hid (hX3.later hbx3)
  clear hb3 hbx3 hbn3 hX3
  go_wp2_with fail
  (with_reducible refine (HRL _ HA HL).mono ?_)
  rintro e w4 ⟨D4, dc4, E4, ec4, rfl, hX4, hb4⟩
  have V3n := Lib.hid (V3.out.below hb4); clear V3; have V3 := V3n; clear V3n
  have O3n := Lib.hid (O3.out.below hb4); clear O3; have O3 := O3n; clear O3n
  have P3n := Lib.hid (P3.out.later hb4); clear P3; have P3 := P3n; clear P3n
  go_upto_region 6 with fail
  have hbx4 : Below w4.heap.size w4 ((w4.alloc (.cells #[.int .i64 x.k, .int .i64 x.c, .int .u64 (x.a : Int), .int .u64 (x.b : Int), .slice D4 x.d.length dc4, .slice E4 x.m ec4] 43)).alloc (.cells #[.int .i64 0, .bool false, .int .i64 0, .int .u64 0, .slice none 0 0] 52)) := below_pair _ _ _
  have V4 := Lib.hid ((VarAt.made w4 #[.int .i64 x.k, .int .i64 x.c, .int .u64 (x.a : Int), .int .u64 (x.b : Int), .slice D4 x.d.length dc4, .slice E4 x.m ec4] 43).below (al_below _ (.cells #[.int .i64 0, .bool false, .int .i64 0, .int .u64 0, .slice none 0 0] 52)))
  have O4 := Lib.hid (VarAt.made1 w4 (.cells #[.int .i64 x.k, .int .i64 x.c, .int .u64 (x.a : Int), .int .u64 (x.b : Int), .slice D4 x.d.length dc4, .slice E4 x.m ec4] 43) #[.int .i64 0, .bool false, .int .i64 0, .int .u64 0, .slice none 0 0] 52)
  generalize (w4.alloc (.cells #[.int .i64 x.k, .int .i64 x.c, .int .u64 (x.a : Int), .int .u64 (x.b : Int), .slice D4 x.d.length dc4, .slice E4 x.m ec4] 43)).alloc (.cells #[.int .i64 0, .bool false, .int .i64 0, .int .u64 0, .slice none 0 0] 52) = x4 at hbx4 V4 O4 ⊢
  have V3n := Lib.hid (V3.out.below hbx4); clear V3; have V3 := V3n; clear V3n
  have O3n := Lib.hid (O3.out.below hbx4); clear O3; have O3 := O3n; clear O3n
  have P3n := Lib.hid (P3.out.later hbx4); clear P3; have P3 := P3n; clear P3n
  have P4 := Lib.hid (hX4.later hbx4)
  have hbn4 := hb4.trans (hbx4.mono hb4.size)
  have HAn := Lib.hid (HA.out.later hbn4); clear HA; have HA := HAn; clear HAn
  have HLn := Lib.hid (HL.out.later hbn4); clear HL; have HL := HLn; clear HLn
  have BBn := Lib.hid (BB.out.trans (hbn4.mono BB.out.size)); clear BB; have BB := BBn; clear BBn
  clear hb4 hbx4 hbn4 hX4
  obtain ⟨_, ⟨a0, a1, a2, a3, a4, a5⟩, _⟩ := V3.out.six
  obtain ⟨_, ⟨b0, b1, b2, b3, b4, b5⟩, _⟩ := V4.out.six
  go_wp2_with fail
  (with_reducible refine (asks_same x D3 dc3 E3 ec3 D4 dc4 E4 ec4 _ P3 P4).mono ?_)
  rintro e w5 ⟨rfl, hb5⟩
  obtain ⟨_, ⟨r1, r2, r3, r4, r5⟩, _⟩ := (O3.out.below hb5).five
  obtain ⟨_, ⟨q1, q2, q3, q4, q5⟩, _⟩ := (O4.out.below hb5).five
  have BBn := Lib.hid (BB.out.trans (hb5.mono BB.out.size)); clear BB; have BB := BBn; clear BBn
  clear hb5 a0 a1 a2 a3 a4 a5 b0 b1 b2 b3 b4 b5
  go_wp2_with fail
  (with_reducible refine (outs_same _ _ _ _).mono ?_)
  rintro e w6 ⟨rfl, hb6⟩
  have BBn := Lib.hid (BB.out.trans (hb6.mono BB.out.size)); clear BB; have BB := BBn; clear BBn
  clear hb6
  go_wp2_with fail
  go_ret
  exact ⟨rfl, BB.out⟩
section
set_option maxRecDepth 100000
set_option maxHeartbeats 2000000
variable {H : Type} {enc : TypeId × Value → H} {w : World}
theorem open_l {v : Value} {d : DataW H} {ps : List MemPlace} {base : Nat} (hval : Value.okWide Try.prog w .any base 46 v) (h : DataW.Trod enc Try.prog w 0 (fun _ => true) true 46 v d ps) (hs : Sized Try.prog 46 d) (hlt : ∀ z ∈ ps, z.block < w.heap.size) :
    ∃ (lA : Option Addr) (lL lC : Nat) (ll : List Acc), v = .slice lA lL lC ∧ (lL ≤ lC ∧ AccsAt w lA lL ll) := by
  obtain ⟨a0, len, cap, rfl⟩ := okWide_slice Try.underlying46 hval
  obtain ⟨fuel, hf0⟩ := h
  have hf : DataW.trod enc Try.prog w 0 (fun _ => true) true fuel 46 [.slice a0 len cap] = some (d, ps) := hf0
  obtain ⟨lA, lL, lC, ll, e0, hl⟩ := leaf_accs hf hs hlt
  cases e0
  exact ⟨_, _, _, _, rfl, hl⟩
theorem open_g {v : Value} {d : DataW H} {ps : List MemPlace} {base : Nat} (hval : Value.okWide Try.prog w .any base 47 v) (h : DataW.Trod enc Try.prog w 0 (fun _ => true) true 47 v d ps) (hs : Sized Try.prog 47 d) (hlt : ∀ z ∈ ps, z.block < w.heap.size) :
    ∃ (gA : Option Addr) (gL gC : Nat) (gl : List Res), v = .slice gA gL gC ∧ (gL ≤ gC ∧ LogAt w gA gL gl) := by
  obtain ⟨a0, len, cap, rfl⟩ := okWide_slice Try.underlying47 hval
  obtain ⟨fuel, hf0⟩ := h
  have hf : DataW.trod enc Try.prog w 0 (fun _ => true) true fuel 47 [.slice a0 len cap] = some (d, ps) := hf0
  obtain ⟨gA, gL, gC, gl, e0, hg⟩ := leaf_logs hf hs hlt
  cases e0
  exact ⟨_, _, _, _, rfl, hg⟩
end

set_option maxRecDepth 100000 in
set_option maxHeartbeats 8000000 in
theorem lifted (os : Os) (started : os.Started) (H : Type) (enc : TypeId × Value → H) :
    ReturnsInHanded {} Try.checked os 4 .any (Rows.playTellsSpec.pre6 enc Try.prog Try.f4 Rows.playTellsRow.domain false) (Rows.playTellsSpec.post enc Try.prog Try.f4 false true false false) := by
  refine law_lifted (C := Try.checked) own started (by kernel_rfl) Try.func4
    (ChangeSpec.witness6 (enc := enc) (C := Try.checked) false ⟨#[], #[.slice none 0 0, .slice none 0 0], []⟩ 8 (by kernel_rfl) (by kernel_rfl) (by kernel_rfl) (by kernel_rfl))
    (by kernel_rfl) (by kernel_rfl) Try.underlying4 rfl (by kernel_rfl) ?_
  intro W base args ds before hval hA hwt hlt
  have hA' : DataW.TrodAll enc Try.prog W 0 (fun _ => true) true Try.f4.params.toList args.toList ds before := hA
  have hval' : ∀ (j : Nat) t v, Try.f4.params[j]? = some t → args[j]? = some v → Value.okWide Try.prog W .any base t v := hval
  have hwt' : (DataW.weightsEach Try.prog Try.f4.params.toList ds).all (· ≤ reachBytes) = true := hwt
  rw [Try.params4] at hA' hval' hwt'
  obtain ⟨v0, vs0, d0, ds0, p0, q0, hargs, rfl, rfl, k0, r0⟩ := trodAll_cons hA'
  obtain ⟨v1, vs1, d1, ds1, p1, q1, rfl, rfl, rfl, k1, r1⟩ := trodAll_cons r0
  obtain ⟨rfl, rfl, rfl⟩ := trodAll_nil r1
  obtain rfl : args = #[v0, v1] := by cases args; simp_all
  obtain ⟨lA, lL, lC, ll, rfl, hl⟩ := open_l (hval' 0 46 v0 rfl rfl) k0 (sized_of hwt' (j := 0) (t := 46) rfl rfl) (fun x hx => hlt x (by simp [hx]))
  obtain ⟨gA, gL, gC, gl, rfl, hg⟩ := open_g (hval' 1 47 v1 rfl rfl) k1 (sized_of hwt' (j := 1) (t := 47) rfl rfl) (fun x hx => hlt x (by simp [hx]))
  refine ⟨rfl, ?_⟩
  obtain ⟨_, hlat⟩ := hl
  obtain ⟨hgc, hgat⟩ := hg
  by_cases hf : fewA ll lL 60 = true
  · by_cases h1 : 80 < gL
    · exact walkB lA lL lC ll gA gL gC gl hf h1 W (Lib.hid hlat) (Lib.hid hgat)
    by_cases h2 : lL ≤ gL
    · exact walkYes lA lL lC ll gA gL gC gl hf (by omega) hgc h2 W (Lib.hid hlat) (Lib.hid hgat)
    · exact walkNo lA lL lC ll gA gL gC gl hf (by omega) hgc (by omega) W (Lib.hid hlat) (Lib.hid hgat)
  · exact walkA lA lL lC ll gA gL gC gl (by simpa using hf) W (Lib.hid hlat) (Lib.hid hgat)

theorem over : Rows.playTellsRow.holds Try.pinned (OpenSpec.ofChange Rows.playTellsSpec) :=
  OpenClaim.holds_of_wide 4 Try.f4 rfl rfl rfl rfl rfl rfl rfl ⟨rfl, rfl, rfl, rfl, rfl⟩ rfl rfl rfl rfl rfl (by kernel_rfl) Try.func4 (by kernel_rfl)
    (of_decide_eq_true (by kernel_rfl)) (by unfold Func.isWrapper; first | (rw [if_pos (by decide +kernel)]; kernel_rfl) | (rw [if_neg (by decide +kernel)]; exact ⟨rfl, rfl⟩))
    (fun os started H enc _ => lifted os started H enc)

/-- The statement. -/
theorem proved : Rows.PlayTellsSaid :=
  over
#print axioms proved
end Go.Proofs.Ytjbhichgojjakaa.playTells
