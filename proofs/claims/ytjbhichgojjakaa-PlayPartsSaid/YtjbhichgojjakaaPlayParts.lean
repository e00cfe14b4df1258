/-
  PlayParts: two rows of accesses, one behind the other, ask first what the first one asks, and, once that is told, what the second one asks of what is left of the log; their sums add up; for 30 accesses each, every 80 results. No condition beyond the statement's own.
-/
import Derived.Test.YtjbhichgojjakaaPlyShown
import Derived.Test.YtjbhichgojjakaaPlyLeaf
import Derived.Test.YtjbhichgojjakaaPlyApp
import Derived.Test.YtjbhichgojjakaaLaw
import Derived.Test.YtjbhichgojjakaaFields
import Derived.Deep.Cut
import Derived.Deep.CutRange
namespace Go.Proofs.Ytjbhichgojjakaa.playParts
open Go.ChangeShapes Go.WideShapes Go.ChangeAt Go.RowKit Go.Deep Go.BigFrame
set_option linter.unusedVariables false
theorem own : ownKnob Try.prog.godebug = none := by kernel_rfl

theorem asks_zero (w : World) : Calls Try.prog 16 #[.agg #[.int .i64 0, .int .i64 0, .int .u64 0, .int .u64 0, .slice none 0 0, .slice none 0 0], .agg #[.int .i64 0, .int .i64 0, .int .u64 0, .int .u64 0, .slice none 0 0, .slice none 0 0]] w (Kept w (.bool true)) := asks_same Acc.zero none 0 none 0 none 0 none 0 w (Lib.hid (AccP.zero w)) (Lib.hid (AccP.zero w))
theorem sumR_parts (log : List Res) (a b : Nat) : (sumR log a + sumR (log.drop a) b) % 18446744073709551616 = sumR log (a + b) := by
  induction b with
  | zero => show (sumR log a + 0) % _ = _; rw [Nat.add_zero, Nat.add_zero]; exact Nat.mod_eq_of_lt (sumR_lt log a)
  | succ b ih =>
    have e : (log.drop a).getD b Res.zero = log.getD (a + b) Res.zero := by rw [List.getD_eq_getElem?_getD, List.getD_eq_getElem?_getD, List.getElem?_drop]
    show (sumR log a + (sumR (log.drop a) b + ((log.drop a).getD b Res.zero).n) % 18446744073709551616) % 18446744073709551616 = (sumR log (a + b) + (log.getD (a + b) Res.zero).n) % 18446744073709551616
    rw [e, ← ih]
    omega

set_option maxRecDepth 100000 in
set_option maxHeartbeats 16000000 in
theorem walkA (A : Option Addr) (la lac : Nat) (ua : List Acc) (B : Option Addr) (lb lbc : Nat) (ub : List Acc) (L : Option Addr) (n cap : Nat) (log : List Res) (hf1 : fewA ua la 30 = false) (w : World) (HA : Hid (AccsAt w A la ua)) (HB : Hid (AccsAt w B lb ub)) (HL : Hid (LogAt w L n log)) :
    Calls Try.prog 6 #[.slice A la lac, .slice B lb lbc, .slice L n cap] w fun e w' => e = .returned (.bool true) ∧ Below w.heap.size w w' := by
  have HF1 : ∀ w, Hid (AccsAt w A la ua) → Calls Try.prog 13 #[.slice A la lac, .int .i64 30] w fun e w' => e = .returned (.bool (fewA ua la 30)) ∧ w = w' := fun w h => fewA_at A la lac ua 30 (by omega) w h
  rw [hf1] at HF1
  go_enter Try.func6, Try.ntmps6
  go_wp2_with fail
  (with_reducible refine (playShown _).mono ?_)
  rintro e w1 ⟨rfl, hb⟩
  have HAn := Lib.hid (HA.out.later hb); clear HA; have HA := HAn; clear HAn
  have HBn := Lib.hid (HB.out.later hb); clear HB; have HB := HBn; clear HBn
  have HLn := Lib.hid (HL.out.later hb); clear HL; have HL := HLn; clear HLn
  have BB := Lib.hid hb
  clear hb
  go_wp2_with (go_at_call 13; (with_reducible refine (HF1 _ HA).mono ?_); rintro e w2 ⟨rfl, rfl⟩)
  go_ret
  exact ⟨rfl, BB.out⟩

set_option maxRecDepth 100000 in
set_option maxHeartbeats 16000000 in
theorem walkB (A : Option Addr) (la lac : Nat) (ua : List Acc) (B : Option Addr) (lb lbc : Nat) (ub : List Acc) (L : Option Addr) (n cap : Nat) (log : List Res) (hf1 : fewA ua la 30 = true) (hf2 : fewA ub lb 30 = false) (w : World) (HA : Hid (AccsAt w A la ua)) (HB : Hid (AccsAt w B lb ub)) (HL : Hid (LogAt w L n log)) :
    Calls Try.prog 6 #[.slice A la lac, .slice B lb lbc, .slice L n cap] w fun e w' => e = .returned (.bool true) ∧ Below w.heap.size w w' := by
  have HF1 : ∀ w, Hid (AccsAt w A la ua) → Calls Try.prog 13 #[.slice A la lac, .int .i64 30] w fun e w' => e = .returned (.bool (fewA ua la 30)) ∧ w = w' := fun w h => fewA_at A la lac ua 30 (by omega) w h
  rw [hf1] at HF1
  have HF2 : ∀ w, Hid (AccsAt w B lb ub) → Calls Try.prog 13 #[.slice B lb lbc, .int .i64 30] w fun e w' => e = .returned (.bool (fewA ub lb 30)) ∧ w = w' := fun w h => fewA_at B lb lbc ub 30 (by omega) w h
  rw [hf2] at HF2
  go_enter Try.func6, Try.ntmps6
  go_wp2_with fail
  (with_reducible refine (playShown _).mono ?_)
  rintro e w1 ⟨rfl, hb⟩
  have HAn := Lib.hid (HA.out.later hb); clear HA; have HA := HAn; clear HAn
  have HBn := Lib.hid (HB.out.later hb); clear HB; have HB := HBn; clear HBn
  have HLn := Lib.hid (HL.out.later hb); clear HL; have HL := HLn; clear HLn
  have BB := Lib.hid hb
  clear hb
  go_wp2_with (first | (go_at_call 13; (with_reducible refine (HF1 _ HA).mono ?_); rintro e w2 ⟨rfl, rfl⟩) | (go_at_call 13; (with_reducible refine (HF2 _ HB).mono ?_); rintro e w2 ⟨rfl, rfl⟩))
  go_ret
  exact ⟨rfl, BB.out⟩

set_option maxRecDepth 100000 in
set_option maxHeartbeats 16000000 in
theorem walkC (A : Option Addr) (la lac : Nat) (ua : List Acc) (B : Option Addr) (lb lbc : Nat) (ub : List Acc) (L : Option Addr) (n cap : Nat) (log : List Res) (hf1 : fewA ua la 30 = true) (hf2 : fewA ub lb 30 = true) (h1 : 80 < n) (w : World) (HA : Hid (AccsAt w A la ua)) (HB : Hid (AccsAt w B lb ub)) (HL : Hid (LogAt w L n log)) :
    Calls Try.prog 6 #[.slice A la lac, .slice B lb lbc, .slice L n cap] w fun e w' => e = .returned (.bool true) ∧ Below w.heap.size w w' := by
  have HF1 : ∀ w, Hid (AccsAt w A la ua) → Calls Try.prog 13 #[.slice A la lac, .int .i64 30] w fun e w' => e = .returned (.bool (fewA ua la 30)) ∧ w = w' := fun w h => fewA_at A la lac ua 30 (by omega) w h
  rw [hf1] at HF1
  have HF2 : ∀ w, Hid (AccsAt w B lb ub) → Calls Try.prog 13 #[.slice B lb lbc, .int .i64 30] w fun e w' => e = .returned (.bool (fewA ub lb 30)) ∧ w = w' := fun w h => fewA_at B lb lbc ub 30 (by omega) w h
  rw [hf2] at HF2
  have d1 : decide ((80 : Int) < (n : Int)) = true := by rw [decide_eq_true_iff]; omega
  have d1' : decide (80 < n) = true := by rw [decide_eq_true_iff]; omega
  go_enter Try.func6, Try.ntmps6
  go_wp2_with fail
  (with_reducible refine (playShown _).mono ?_)
  rintro e w1 ⟨rfl, hb⟩
  have HAn := Lib.hid (HA.out.later hb); clear HA; have HA := HAn; clear HAn
  have HBn := Lib.hid (HB.out.later hb); clear HB; have HB := HBn; clear HBn
  have HLn := Lib.hid (HL.out.later hb); clear HL; have HL := HLn; clear HLn
  have BB := Lib.hid hb
  clear hb
  go_wp2_with (first | (go_at_call 13; (with_reducible refine (HF1 _ HA).mono ?_); rintro e w2 ⟨rfl, rfl⟩) | (go_at_call 13; (with_reducible refine (HF2 _ HB).mono ?_); rintro e w2 ⟨rfl, rfl⟩))
  go_ret
  exact ⟨rfl, BB.out⟩

set_option maxRecDepth 100000 in
set_option maxHeartbeats 16000000 in
theorem walk_ahead (A : Option Addr) (la lac : Nat) (ua : List Acc) (B : Option Addr) (lb lbc : Nat) (ub : List Acc) (L : Option Addr) (n cap : Nat) (log : List Res) (hf1 : fewA ua la 30 = true) (hf2 : fewA ub lb 30 = true) (h1 : n ≤ 80) (hc : n ≤ cap) (hn : n < la) (w : World) (HA : Hid (AccsAt w A la ua)) (HB : Hid (AccsAt w B lb ub)) (HL : Hid (LogAt w L n log)) :
    Calls Try.prog 6 #[.slice A la lac, .slice B lb lbc, .slice L n cap] w fun e w' => e = .returned (.bool true) ∧ Below w.heap.size w w' := by
  have HF1 : ∀ w, Hid (AccsAt w A la ua) → Calls Try.prog 13 #[.slice A la lac, .int .i64 30] w fun e w' => e = .returned (.bool (fewA ua la 30)) ∧ w = w' := fun w h => fewA_at A la lac ua 30 (by omega) w h
  rw [hf1] at HF1
  have HF2 : ∀ w, Hid (AccsAt w B lb ub) → Calls Try.prog 13 #[.slice B lb lbc, .int .i64 30] w fun e w' => e = .returned (.bool (fewA ub lb 30)) ∧ w = w' := fun w h => fewA_at B lb lbc ub 30 (by omega) w h
  rw [hf2] at HF2
  have d1 : decide ((80 : Int) < (n : Int)) = false := by rw [decide_eq_false_iff_not]; omega
  have d1' : decide (80 < n) = false := by rw [decide_eq_false_iff_not]; omega
  have d2 : decide ((n : Int) < (la : Int)) = true := by rw [decide_eq_true_iff]; omega
  have d2' : decide (n < la) = true := by rw [decide_eq_true_iff]; omega
  have hm1 : ∀ x ∈ ua, x.m ≤ 1000000 := fun x hx => Nat.le_trans ((few_mem hf1).2.2 x hx) (by omega)
  have hm2 : ∀ x ∈ ub, x.m ≤ 1000000 := fun x hx => Nat.le_trans ((few_mem hf2).2.2 x hx) (by omega)
  have hm3 : ∀ x ∈ ua ++ ub, x.m ≤ 1000000 := fun x hx => (List.mem_append.1 hx).elim (hm1 x) (hm2 x)
  have HM1 := Lib.hid hm1
  have HM2 := Lib.hid hm2
  have HM3 := Lib.hid hm3
  have HS1 := Lib.hid (few_mem hf1).1
  have HS2 := Lib.hid (few_mem hf2).1
  have HC := Lib.hid hc
  have HN := Lib.hid hn
  clear hm1 hm2 hm3 hc h1 hn
  go_enter Try.func6, Try.ntmps6
  go_wp2_with fail
  (with_reducible refine (playShown _).mono ?_)
  rintro e w1 ⟨rfl, hb⟩
  have HAn := Lib.hid (HA.out.later hb); clear HA; have HA := HAn; clear HAn
  have HBn := Lib.hid (HB.out.later hb); clear HB; have HB := HBn; clear HBn
  have HLn := Lib.hid (HL.out.later hb); clear HL; have HL := HLn; clear HLn
  have BB := Lib.hid hb
  clear hb
  go_wp2_with (first | (go_at_call 13; (with_reducible refine (HF1 _ HA).mono ?_); rintro e w2 ⟨rfl, rfl⟩) | (go_at_call 13; (with_reducible refine (HF2 _ HB).mono ?_); rintro e w2 ⟨rfl, rfl⟩) | (at_builtin; (refine wpList_appendA (by rfl) (.tmp 36) (.tmp 37) (by rfl) w1.heap.size _ 0 [] (by rfl) (World.ownsRow_made w1 #[] 0 (Nat.le_refl _) (Nat.zero_le _) rfl) A la lac ua (by rfl) HA.out (al_below w1 _) (by have := HS1.out; omega) (by simp) ?_); (intro v1 w2 vs1 hown1 hraw1 hg1; have hb1 : Below w1.heap.size w1 w2 := (al_below w1 _).grown hg1 (by simp) (fun k hk => by simp [Value.ownBlock] at hk; omega); have HB1 := Lib.hid hb1; have HO1 := Lib.hid hown1; have HR1 := Lib.hid hraw1; clear hown1 hraw1 hg1 hb1)) | (at_builtin; (refine wpList_appendA (by rfl) (.tmp 38) (.tmp 39) (by rfl) w1.heap.size v1 (0 + la) _ (by rfl) HO1.out B lb lbc ub (by rfl) HB.out HB1.out (by have := HS1.out; have := HS2.out; omega) HB1.out.size ?_); (intro v2 w3 vs2 hown2 hraw2 hg2; have hb2 : Below w1.heap.size w1 w3 := HB1.out.grown hg2 HB1.out.size (fun k hk => (HO1.out.lt k hk).1); have HB2 := Lib.hid hb2; have HO2 := Lib.hid hown2; have HR2 := Lib.hid hraw2; clear hown2 hraw2 hg2 hb2)))
  rw [Nat.zero_add] at HO2
  obtain ⟨R, rc, rfl, hrc, hat, _⟩ := ((HR1.out.app HR2.out).later HB2.out).at_ HO2.out (by have := HS1.out; have := HS2.out; omega)
  have HRC := Lib.hid hrc
  have HR := Lib.hid hat
  have HAn := Lib.hid (HA.out.later HB2.out); clear HA; have HA := HAn; clear HAn
  have HBn := Lib.hid (HB.out.later HB2.out); clear HB; have HB := HBn; clear HBn
  have HLn := Lib.hid (HL.out.later HB2.out); clear HL; have HL := HLn; clear HLn
  have BBn := Lib.hid (BB.out.trans (HB2.out.mono BB.out.size)); clear BB; have BB := BBn; clear BBn
  clear hrc hat HO1 HO2 HR1 HR2 HB1 HB2
  have hgd : (ua ++ ub).getD n Acc.zero = ua.getD n Acc.zero := by rw [List.getD_eq_getElem?_getD, List.getD_eq_getElem?_getD, List.getElem?_append_left (by have := HA.out.1; have := HN.out; omega)]
  have HL1 := fun w h h' => line_no R (la + lb) rc (ua ++ ub) L n cap log (by have := HN.out; omega) HC.out HM3.out w h h'
  have HL2 := fun w h h' => line_no A la lac ua L n cap log HN.out HC.out HM1.out w h h'
  rw [hgd] at HL1
  generalize ua.getD n Acc.zero = x at HL1 HL2
  clear hgd
  (with_reducible refine (HL1 _ HR HL).mono ?_)
  rintro e w4 ⟨D4, dc4, E4, ec4, rfl, hX4, hb4, _, _⟩
  go_upto_region 6 with fail
  have hbx4 : Below w4.heap.size w4 ((w4.alloc (.cells #[.int .i64 x.k, .int .i64 x.c, .int .u64 (x.a : Int), .int .u64 (x.b : Int), .slice D4 x.d.length dc4, .slice E4 x.m ec4] 43)).alloc (.cells #[.int .i64 0, .bool false, .int .i64 0, .int .u64 0, .slice none 0 0] 52)) := below_pair _ _ _
  have V4 := Lib.hid ((VarAt.made w4 #[.int .i64 x.k, .int .i64 x.c, .int .u64 (x.a : Int), .int .u64 (x.b : Int), .slice D4 x.d.length dc4, .slice E4 x.m ec4] 43).below (al_below _ (.cells #[.int .i64 0, .bool false, .int .i64 0, .int .u64 0, .slice none 0 0] 52)))
  have O4 := Lib.hid (VarAt.made1 w4 (.cells #[.int .i64 x.k, .int .i64 x.c, .int .u64 (x.a : Int), .int .u64 (x.b : Int), .slice D4 x.d.length dc4, .slice E4 x.m ec4] 43) #[.int .i64 0, .bool false, .int .i64 0, .int .u64 0, .slice none 0 0] 52)
  generalize (w4.alloc (.cells #[.int .i64 x.k, .int .i64 x.c, .int .u64 (x.a : Int), .int .u64 (x.b : Int), .slice D4 x.d.length dc4, .slice E4 x.m ec4] 43)).alloc (.cells #[.int .i64 0, .bool false, .int .i64 0, .int .u64 0, .slice none 0 0] 52) = x4 at hbx4 V4 O4 ⊢
  have P4 := Lib.hid (hX4.later hbx4)
  have hbn4 := hb4.trans (hbx4.mono hb4.size)
  have HAn := Lib.hid (HA.out.later hbn4); clear HA; have HA := HAn; clear HAn
  have HBn := Lib.hid (HB.out.later hbn4); clear HB; have HB := HBn; clear HBn
  have HLn := Lib.hid (HL.out.later hbn4); clear HL; have HL := HLn; clear HLn
  have HRn := Lib.hid (HR.out.later hbn4); clear HR; have HR := HRn; clear HRn
  have BBn := Lib.hid (BB.out.trans (hbn4.mono BB.out.size)); clear BB; have BB := BBn; clear BBn
  clear hb4 hbx4 hbn4 hX4
  go_wp2_with fail
  (with_reducible refine (HL2 _ HA HL).mono ?_)
  rintro e w5 ⟨D5, dc5, E5, ec5, rfl, hX5, hb5, _, _⟩
  have V4n := Lib.hid (V4.out.below hb5); clear V4; have V4 := V4n; clear V4n
  have O4n := Lib.hid (O4.out.below hb5); clear O4; have O4 := O4n; clear O4n
  have P4n := Lib.hid (P4.out.later hb5); clear P4; have P4 := P4n; clear P4n
  go_upto_region 8 with fail
  have hbx5 : Below w5.heap.size w5 ((w5.alloc (.cells #[.int .i64 x.k, .int .i64 x.c, .int .u64 (x.a : Int), .int .u64 (x.b : Int), .slice D5 x.d.length dc5, .slice E5 x.m ec5] 43)).alloc (.cells #[.int .i64 0, .bool false, .int .i64 0, .int .u64 0, .slice none 0 0] 52)) := below_pair _ _ _
  have V5 := Lib.hid ((VarAt.made w5 #[.int .i64 x.k, .int .i64 x.c, .int .u64 (x.a : Int), .int .u64 (x.b : Int), .slice D5 x.d.length dc5, .slice E5 x.m ec5] 43).below (al_below _ (.cells #[.int .i64 0, .bool false, .int .i64 0, .int .u64 0, .slice none 0 0] 52)))
  have O5 := Lib.hid (VarAt.made1 w5 (.cells #[.int .i64 x.k, .int .i64 x.c, .int .u64 (x.a : Int), .int .u64 (x.b : Int), .slice D5 x.d.length dc5, .slice E5 x.m ec5] 43) #[.int .i64 0, .bool false, .int .i64 0, .int .u64 0, .slice none 0 0] 52)
  generalize (w5.alloc (.cells #[.int .i64 x.k, .int .i64 x.c, .int .u64 (x.a : Int), .int .u64 (x.b : Int), .slice D5 x.d.length dc5, .slice E5 x.m ec5] 43)).alloc (.cells #[.int .i64 0, .bool false, .int .i64 0, .int .u64 0, .slice none 0 0] 52) = x5 at hbx5 V5 O5 ⊢
  have V4n := Lib.hid (V4.out.below hbx5); clear V4; have V4 := V4n; clear V4n
  have O4n := Lib.hid (O4.out.below hbx5); clear O4; have O4 := O4n; clear O4n
  have P4n := Lib.hid (P4.out.later hbx5); clear P4; have P4 := P4n; clear P4n
  have P5 := Lib.hid (hX5.later hbx5)
  have hbn5 := hb5.trans (hbx5.mono hb5.size)
  have HAn := Lib.hid (HA.out.later hbn5); clear HA; have HA := HAn; clear HAn
  have HBn := Lib.hid (HB.out.later hbn5); clear HB; have HB := HBn; clear HBn
  have HLn := Lib.hid (HL.out.later hbn5); clear HL; have HL := HLn; clear HLn
  have HRn := Lib.hid (HR.out.later hbn5); clear HR; have HR := HRn; clear HRn
  have BBn := Lib.hid (BB.out.trans (hbn5.mono BB.out.size)); clear BB; have BB := BBn; clear BBn
  clear hb5 hbx5 hbn5 hX5
  obtain ⟨_, ⟨a0, a1, a2, a3, a4, a5⟩, _⟩ := V4.out.six
  obtain ⟨_, ⟨b0, b1, b2, b3, b4, b5⟩, _⟩ := V5.out.six
  go_wp2_with fail
  (with_reducible refine (asks_same x D4 dc4 E4 ec4 D5 dc5 E5 ec5 _ P4 P5).mono ?_)
  rintro e w7 ⟨rfl, hb7⟩
  have BBn := Lib.hid (BB.out.trans (hb7.mono BB.out.size)); clear BB; have BB := BBn; clear BBn
  clear hb7
  go_wp2_with fail
  go_ret
  exact ⟨rfl, BB.out⟩

set_option maxRecDepth 100000 in
set_option maxHeartbeats 16000000 in
theorem walk_in (A : Option Addr) (la lac : Nat) (ua : List Acc) (B : Option Addr) (lb lbc : Nat) (ub : List Acc) (L : Option Addr) (n cap : Nat) (log : List Res) (hf1 : fewA ua la 30 = true) (hf2 : fewA ub lb 30 = true) (h1 : n ≤ 80) (hc : n ≤ cap) (hn : la ≤ n) (hn2 : n - la < lb) (w : World) (HA : Hid (AccsAt w A la ua)) (HB : Hid (AccsAt w B lb ub)) (HL : Hid (LogAt w L n log)) :
    Calls Try.prog 6 #[.slice A la lac, .slice B lb lbc, .slice L n cap] w fun e w' => e = .returned (.bool true) ∧ Below w.heap.size w w' := by
  have HF1 : ∀ w, Hid (AccsAt w A la ua) → Calls Try.prog 13 #[.slice A la lac, .int .i64 30] w fun e w' => e = .returned (.bool (fewA ua la 30)) ∧ w = w' := fun w h => fewA_at A la lac ua 30 (by omega) w h
  rw [hf1] at HF1
  have HF2 : ∀ w, Hid (AccsAt w B lb ub) → Calls Try.prog 13 #[.slice B lb lbc, .int .i64 30] w fun e w' => e = .returned (.bool (fewA ub lb 30)) ∧ w = w' := fun w h => fewA_at B lb lbc ub 30 (by omega) w h
  rw [hf2] at HF2
  have d1 : decide ((80 : Int) < (n : Int)) = false := by rw [decide_eq_false_iff_not]; omega
  have d1' : decide (80 < n) = false := by rw [decide_eq_false_iff_not]; omega
  have d2 : decide ((n : Int) < (la : Int)) = false := by rw [decide_eq_false_iff_not]; omega
  have d2' : decide (n < la) = false := by rw [decide_eq_false_iff_not]; omega
  have hm1 : ∀ x ∈ ua, x.m ≤ 1000000 := fun x hx => Nat.le_trans ((few_mem hf1).2.2 x hx) (by omega)
  have hm2 : ∀ x ∈ ub, x.m ≤ 1000000 := fun x hx => Nat.le_trans ((few_mem hf2).2.2 x hx) (by omega)
  have hm3 : ∀ x ∈ ua ++ ub, x.m ≤ 1000000 := fun x hx => (List.mem_append.1 hx).elim (hm1 x) (hm2 x)
  have HM1 := Lib.hid hm1
  have HM2 := Lib.hid hm2
  have HM3 := Lib.hid hm3
  have HS1 := Lib.hid (few_mem hf1).1
  have HS2 := Lib.hid (few_mem hf2).1
  have HC := Lib.hid hc
  have HN := Lib.hid hn
  have HN2 := Lib.hid hn2
  have i1 : (0 : Int) ≤ (la : Int) := by omega
  have hcut := fun W => run_cut_log L n cap la hn W
  have HCUT := fun w (h : LogAt w L n log) => h.cut hc la hn
  have HCC : Hid (n - la ≤ cap - la) := Lib.hid (by omega)
  generalize cutR L cap la = L2 at hcut HCUT
  obtain ⟨n2, hn2e⟩ : ∃ n2, n - la = n2 := ⟨_, rfl⟩
  obtain ⟨cap2, hcap2⟩ : ∃ c, cap - la = c := ⟨_, rfl⟩
  rw [hn2e] at hcut HCUT HCC HN2
  rw [hcap2] at hcut HCC
  have HE2 := Lib.hid hn2e
  clear hn2 hn2e hcap2
  clear hm1 hm2 hm3 hc h1 hn
  go_enter Try.func6, Try.ntmps6
  go_wp2_with fail
  (with_reducible refine (playShown _).mono ?_)
  rintro e w1 ⟨rfl, hb⟩
  have HAn := Lib.hid (HA.out.later hb); clear HA; have HA := HAn; clear HAn
  have HBn := Lib.hid (HB.out.later hb); clear HB; have HB := HBn; clear HBn
  have HLn := Lib.hid (HL.out.later hb); clear HL; have HL := HLn; clear HLn
  have BB := Lib.hid hb
  clear hb
  go_wp2_with (first | (go_at_call 13; (with_reducible refine (HF1 _ HA).mono ?_); rintro e w2 ⟨rfl, rfl⟩) | (go_at_call 13; (with_reducible refine (HF2 _ HB).mono ?_); rintro e w2 ⟨rfl, rfl⟩) | (at_builtin; (refine wpList_appendA (by rfl) (.tmp 36) (.tmp 37) (by rfl) w1.heap.size _ 0 [] (by rfl) (World.ownsRow_made w1 #[] 0 (Nat.le_refl _) (Nat.zero_le _) rfl) A la lac ua (by rfl) HA.out (al_below w1 _) (by have := HS1.out; omega) (by simp) ?_); (intro v1 w2 vs1 hown1 hraw1 hg1; have hb1 : Below w1.heap.size w1 w2 := (al_below w1 _).grown hg1 (by simp) (fun k hk => by simp [Value.ownBlock] at hk; omega); have HB1 := Lib.hid hb1; have HO1 := Lib.hid hown1; have HR1 := Lib.hid hraw1; clear hown1 hraw1 hg1 hb1)) | (at_builtin; (refine wpList_appendA (by rfl) (.tmp 38) (.tmp 39) (by rfl) w1.heap.size v1 (0 + la) _ (by rfl) HO1.out B lb lbc ub (by rfl) HB.out HB1.out (by have := HS1.out; have := HS2.out; omega) HB1.out.size ?_); (intro v2 w3 vs2 hown2 hraw2 hg2; have hb2 : Below w1.heap.size w1 w3 := HB1.out.grown hg2 HB1.out.size (fun k hk => (HO1.out.lt k hk).1); have HB2 := Lib.hid hb2; have HO2 := Lib.hid hown2; have HR2 := Lib.hid hraw2; clear hown2 hraw2 hg2 hb2)))
  rw [Nat.zero_add] at HO2
  obtain ⟨R, rc, rfl, hrc, hat, _⟩ := ((HR1.out.app HR2.out).later HB2.out).at_ HO2.out (by have := HS1.out; have := HS2.out; omega)
  have HRC := Lib.hid hrc
  have HR := Lib.hid hat
  have HAn := Lib.hid (HA.out.later HB2.out); clear HA; have HA := HAn; clear HAn
  have HBn := Lib.hid (HB.out.later HB2.out); clear HB; have HB := HBn; clear HBn
  have HLn := Lib.hid (HL.out.later HB2.out); clear HL; have HL := HLn; clear HLn
  have BBn := Lib.hid (BB.out.trans (HB2.out.mono BB.out.size)); clear BB; have BB := BBn; clear BBn
  clear hrc hat HO1 HO2 HR1 HR2 HB1 HB2
  have hgd : (ua ++ ub).getD n Acc.zero = ub.getD n2 Acc.zero := by rw [List.getD_eq_getElem?_getD, List.getD_eq_getElem?_getD, List.getElem?_append_right (by have := HA.out.1; have := HN.out; omega), show n - ua.length = n2 by have := HA.out.1; have := HE2.out; omega]
  have HL1 := fun w h h' => line_no R (la + lb) rc (ua ++ ub) L n cap log (by have := HN.out; have := HE2.out; have := HN2.out; omega) HC.out HM3.out w h h'
  have HL2 := fun w h h' => line_yes A la lac ua L n cap log HN.out HC.out HM1.out w h h'
  have HL3 := fun w h h' => line_no B lb lbc ub L2 n2 cap2 (log.drop la) HN2.out HCC.out HM2.out w h h'
  rw [hgd] at HL1
  generalize ub.getD n2 Acc.zero = x at HL1 HL3
  clear hgd
  (with_reducible refine (HL1 _ HR HL).mono ?_)
  rintro e w4 ⟨D4, dc4, E4, ec4, rfl, hX4, hb4, _, _⟩
  go_upto_region 6 with fail
  have hbx4 : Below w4.heap.size w4 ((w4.alloc (.cells #[.int .i64 x.k, .int .i64 x.c, .int .u64 (x.a : Int), .int .u64 (x.b : Int), .slice D4 x.d.length dc4, .slice E4 x.m ec4] 43)).alloc (.cells #[.int .i64 0, .bool false, .int .i64 0, .int .u64 0, .slice none 0 0] 52)) := below_pair _ _ _
  have V4 := Lib.hid ((VarAt.made w4 #[.int .i64 x.k, .int .i64 x.c, .int .u64 (x.a : Int), .int .u64 (x.b : Int), .slice D4 x.d.length dc4, .slice E4 x.m ec4] 43).below (al_below _ (.cells #[.int .i64 0, .bool false, .int .i64 0, .int .u64 0, .slice none 0 0] 52)))
  have O4 := Lib.hid (VarAt.made1 w4 (.cells #[.int .i64 x.k, .int .i64 x.c, .int .u64 (x.a : Int), .int .u64 (x.b : Int), .slice D4 x.d.length dc4, .slice E4 x.m ec4] 43) #[.int .i64 0, .bool false, .int .i64 0, .int .u64 0, .slice none 0 0] 52)
  generalize (w4.alloc (.cells #[.int .i64 x.k, .int .i64 x.c, .int .u64 (x.a : Int), .int .u64 (x.b : Int), .slice D4 x.d.length dc4, .slice E4 x.m ec4] 43)).alloc (.cells #[.int .i64 0, .bool false, .int .i64 0, .int .u64 0, .slice none 0 0] 52) = x4 at hbx4 V4 O4 ⊢
  have P4 := Lib.hid (hX4.later hbx4)
  have hbn4 := hb4.trans (hbx4.mono hb4.size)
  have HAn := Lib.hid (HA.out.later hbn4); clear HA; have HA := HAn; clear HAn
  have HBn := Lib.hid (HB.out.later hbn4); clear HB; have HB := HBn; clear HBn
  have HLn := Lib.hid (HL.out.later hbn4); clear HL; have HL := HLn; clear HLn
  have HRn := Lib.hid (HR.out.later hbn4); clear HR; have HR := HRn; clear HRn
  have BBn := Lib.hid (BB.out.trans (hbn4.mono BB.out.size)); clear BB; have BB := BBn; clear BBn
  clear hb4 hbx4 hbn4 hX4
  go_wp2_with fail
  (with_reducible refine (HL2 _ HA HL).mono ?_)
  rintro e w5 ⟨rfl, hb5⟩
  have V4n := Lib.hid (V4.out.below hb5); clear V4; have V4 := V4n; clear V4n
  have O4n := Lib.hid (O4.out.below hb5); clear O4; have O4 := O4n; clear O4n
  have P4n := Lib.hid (P4.out.later hb5); clear P4; have P4 := P4n; clear P4n
  go_upto_region 10 with fail
  have hbx5 : Below w5.heap.size w5 ((w5.alloc (.cells #[.int .i64 0, .int .i64 0, .int .u64 0, .int .u64 0, .slice none 0 0, .slice none 0 0] 43)).alloc (.cells #[.int .i64 0, .bool false, .int .i64 (la : Int), .int .u64 (sumR log la : Int), .slice none 0 0] 52)) := below_pair _ _ _
  have V5 := Lib.hid ((VarAt.made w5 #[.int .i64 0, .int .i64 0, .int .u64 0, .int .u64 0, .slice none 0 0, .slice none 0 0] 43).below (al_below _ (.cells #[.int .i64 0, .bool false, .int .i64 (la : Int), .int .u64 (sumR log la : Int), .slice none 0 0] 52)))
  have O5 := Lib.hid (VarAt.made1 w5 (.cells #[.int .i64 0, .int .i64 0, .int .u64 0, .int .u64 0, .slice none 0 0, .slice none 0 0] 43) #[.int .i64 0, .bool false, .int .i64 (la : Int), .int .u64 (sumR log la : Int), .slice none 0 0] 52)
  generalize (w5.alloc (.cells #[.int .i64 0, .int .i64 0, .int .u64 0, .int .u64 0, .slice none 0 0, .slice none 0 0] 43)).alloc (.cells #[.int .i64 0, .bool false, .int .i64 (la : Int), .int .u64 (sumR log la : Int), .slice none 0 0] 52) = x5 at hbx5 V5 O5 ⊢
  have V4n := Lib.hid (V4.out.below hbx5); clear V4; have V4 := V4n; clear V4n
  have O4n := Lib.hid (O4.out.below hbx5); clear O4; have O4 := O4n; clear O4n
  have P4n := Lib.hid (P4.out.later hbx5); clear P4; have P4 := P4n; clear P4n
  have hbn5 := hb5.trans (hbx5.mono hb5.size)
  have HAn := Lib.hid (HA.out.later hbn5); clear HA; have HA := HAn; clear HAn
  have HBn := Lib.hid (HB.out.later hbn5); clear HB; have HB := HBn; clear HBn
  have HLn := Lib.hid (HL.out.later hbn5); clear HL; have HL := HLn; clear HLn
  have HRn := Lib.hid (HR.out.later hbn5); clear HR; have HR := HRn; clear HRn
  have BBn := Lib.hid (BB.out.trans (hbn5.mono BB.out.size)); clear BB; have BB := BBn; clear BBn
  clear hb5 hbx5 hbn5
  go_wp2_with fail
  (with_reducible refine (HL3 _ HB (Lib.hid (HCUT _ HL.out))).mono ?_)
  rintro e w6 ⟨D6, dc6, E6, ec6, rfl, hX6, hb6, _, _⟩
  have V4n := Lib.hid (V4.out.below hb6); clear V4; have V4 := V4n; clear V4n
  have O4n := Lib.hid (O4.out.below hb6); clear O4; have O4 := O4n; clear O4n
  have P4n := Lib.hid (P4.out.later hb6); clear P4; have P4 := P4n; clear P4n
  have O5n := Lib.hid (O5.out.below hb6); clear O5; have O5 := O5n; clear O5n
  go_upto_region 11 with fail
  have hbx6 : Below w6.heap.size w6 ((w6.alloc (.cells #[.int .i64 x.k, .int .i64 x.c, .int .u64 (x.a : Int), .int .u64 (x.b : Int), .slice D6 x.d.length dc6, .slice E6 x.m ec6] 43)).alloc (.cells #[.int .i64 0, .bool false, .int .i64 0, .int .u64 0, .slice none 0 0] 52)) := below_pair _ _ _
  have V6 := Lib.hid ((VarAt.made w6 #[.int .i64 x.k, .int .i64 x.c, .int .u64 (x.a : Int), .int .u64 (x.b : Int), .slice D6 x.d.length dc6, .slice E6 x.m ec6] 43).below (al_below _ (.cells #[.int .i64 0, .bool false, .int .i64 0, .int .u64 0, .slice none 0 0] 52)))
  have O6 := Lib.hid (VarAt.made1 w6 (.cells #[.int .i64 x.k, .int .i64 x.c, .int .u64 (x.a : Int), .int .u64 (x.b : Int), .slice D6 x.d.length dc6, .slice E6 x.m ec6] 43) #[.int .i64 0, .bool false, .int .i64 0, .int .u64 0, .slice none 0 0] 52)
  generalize (w6.alloc (.cells #[.int .i64 x.k, .int .i64 x.c, .int .u64 (x.a : Int), .int .u64 (x.b : Int), .slice D6 x.d.length dc6, .slice E6 x.m ec6] 43)).alloc (.cells #[.int .i64 0, .bool false, .int .i64 0, .int .u64 0, .slice none 0 0] 52) = x6 at hbx6 V6 O6 ⊢
  have V4n := Lib.hid (V4.out.below hbx6); clear V4; have V4 := V4n; clear V4n
  have O4n := Lib.hid (O4.out.below hbx6); clear O4; have O4 := O4n; clear O4n
  have P4n := Lib.hid (P4.out.later hbx6); clear P4; have P4 := P4n; clear P4n
  have O5n := Lib.hid (O5.out.below hbx6); clear O5; have O5 := O5n; clear O5n
  have P6 := Lib.hid (hX6.later hbx6)
  have hbn6 := hb6.trans (hbx6.mono hb6.size)
  have HAn := Lib.hid (HA.out.later hbn6); clear HA; have HA := HAn; clear HAn
  have HBn := Lib.hid (HB.out.later hbn6); clear HB; have HB := HBn; clear HBn
  have HLn := Lib.hid (HL.out.later hbn6); clear HL; have HL := HLn; clear HLn
  have HRn := Lib.hid (HR.out.later hbn6); clear HR; have HR := HRn; clear HRn
  have BBn := Lib.hid (BB.out.trans (hbn6.mono BB.out.size)); clear BB; have BB := BBn; clear BBn
  clear hb6 hbx6 hbn6 hX6
  obtain ⟨_, ⟨a0, a1, a2, a3, a4, a5⟩, _⟩ := V4.out.six
  obtain ⟨_, ⟨b0, b1, b2, b3, b4, b5⟩, _⟩ := V6.out.six
  go_wp2_with fail
  (with_reducible refine (asks_same x D4 dc4 E4 ec4 D6 dc6 E6 ec6 _ P4 P6).mono ?_)
  rintro e w7 ⟨rfl, hb7⟩
  have BBn := Lib.hid (BB.out.trans (hb7.mono BB.out.size)); clear BB; have BB := BBn; clear BBn
  clear hb7
  go_wp2_with fail
  go_ret
  exact ⟨rfl, BB.out⟩

set_option maxRecDepth 100000 in
set_option maxHeartbeats 16000000 in
theorem walk_behind (A : Option Addr) (la lac : Nat) (ua : List Acc) (B : Option Addr) (lb lbc : Nat) (ub : List Acc) (L : Option Addr) (n cap : Nat) (log : List Res) (hf1 : fewA ua la 30 = true) (hf2 : fewA ub lb 30 = true) (h1 : n ≤ 80) (hc : n ≤ cap) (hn : la ≤ n) (hn2 : lb ≤ n - la) (w : World) (HA : Hid (AccsAt w A la ua)) (HB : Hid (AccsAt w B lb ub)) (HL : Hid (LogAt w L n log)) :
    Calls Try.prog 6 #[.slice A la lac, .slice B lb lbc, .slice L n cap] w fun e w' => e = .returned (.bool true) ∧ Below w.heap.size w w' := by
  have HF1 : ∀ w, Hid (AccsAt w A la ua) → Calls Try.prog 13 #[.slice A la lac, .int .i64 30] w fun e w' => e = .returned (.bool (fewA ua la 30)) ∧ w = w' := fun w h => fewA_at A la lac ua 30 (by omega) w h
  rw [hf1] at HF1
  have HF2 : ∀ w, Hid (AccsAt w B lb ub) → Calls Try.prog 13 #[.slice B lb lbc, .int .i64 30] w fun e w' => e = .returned (.bool (fewA ub lb 30)) ∧ w = w' := fun w h => fewA_at B lb lbc ub 30 (by omega) w h
  rw [hf2] at HF2
  have d1 : decide ((80 : Int) < (n : Int)) = false := by rw [decide_eq_false_iff_not]; omega
  have d1' : decide (80 < n) = false := by rw [decide_eq_false_iff_not]; omega
  have d2 : decide ((n : Int) < (la : Int)) = false := by rw [decide_eq_false_iff_not]; omega
  have d2' : decide (n < la) = false := by rw [decide_eq_false_iff_not]; omega
  have hm1 : ∀ x ∈ ua, x.m ≤ 1000000 := fun x hx => Nat.le_trans ((few_mem hf1).2.2 x hx) (by omega)
  have hm2 : ∀ x ∈ ub, x.m ≤ 1000000 := fun x hx => Nat.le_trans ((few_mem hf2).2.2 x hx) (by omega)
  have hm3 : ∀ x ∈ ua ++ ub, x.m ≤ 1000000 := fun x hx => (List.mem_append.1 hx).elim (hm1 x) (hm2 x)
  have HM1 := Lib.hid hm1
  have HM2 := Lib.hid hm2
  have HM3 := Lib.hid hm3
  have HS1 := Lib.hid (few_mem hf1).1
  have HS2 := Lib.hid (few_mem hf2).1
  have HC := Lib.hid hc
  have HN := Lib.hid hn
  have HN2 := Lib.hid hn2
  have i1 : (0 : Int) ≤ (la : Int) := by omega
  have hcut := fun W => run_cut_log L n cap la hn W
  have HCUT := fun w (h : LogAt w L n log) => h.cut hc la hn
  have HCC : Hid (n - la ≤ cap - la) := Lib.hid (by omega)
  generalize cutR L cap la = L2 at hcut HCUT
  obtain ⟨n2, hn2e⟩ : ∃ n2, n - la = n2 := ⟨_, rfl⟩
  obtain ⟨cap2, hcap2⟩ : ∃ c, cap - la = c := ⟨_, rfl⟩
  rw [hn2e] at hcut HCUT HCC HN2
  rw [hcap2] at hcut HCC
  have HE2 := Lib.hid hn2e
  clear hn2 hn2e hcap2
  clear hm1 hm2 hm3 hc h1 hn
  go_enter Try.func6, Try.ntmps6
  go_wp2_with fail
  (with_reducible refine (playShown _).mono ?_)
  rintro e w1 ⟨rfl, hb⟩
  have HAn := Lib.hid (HA.out.later hb); clear HA; have HA := HAn; clear HAn
  have HBn := Lib.hid (HB.out.later hb); clear HB; have HB := HBn; clear HBn
  have HLn := Lib.hid (HL.out.later hb); clear HL; have HL := HLn; clear HLn
  have BB := Lib.hid hb
  clear hb
  go_wp2_with (first | (go_at_call 13; (with_reducible refine (HF1 _ HA).mono ?_); rintro e w2 ⟨rfl, rfl⟩) | (go_at_call 13; (with_reducible refine (HF2 _ HB).mono ?_); rintro e w2 ⟨rfl, rfl⟩) | (at_builtin; (refine wpList_appendA (by rfl) (.tmp 36) (.tmp 37) (by rfl) w1.heap.size _ 0 [] (by rfl) (World.ownsRow_made w1 #[] 0 (Nat.le_refl _) (Nat.zero_le _) rfl) A la lac ua (by rfl) HA.out (al_below w1 _) (by have := HS1.out; omega) (by simp) ?_); (intro v1 w2 vs1 hown1 hraw1 hg1; have hb1 : Below w1.heap.size w1 w2 := (al_below w1 _).grown hg1 (by simp) (fun k hk => by simp [Value.ownBlock] at hk; omega); have HB1 := Lib.hid hb1; have HO1 := Lib.hid hown1; have HR1 := Lib.hid hraw1; clear hown1 hraw1 hg1 hb1)) | (at_builtin; (refine wpList_appendA (by rfl) (.tmp 38) (.tmp 39) (by rfl) w1.heap.size v1 (0 + la) _ (by rfl) HO1.out B lb lbc ub (by rfl) HB.out HB1.out (by have := HS1.out; have := HS2.out; omega) HB1.out.size ?_); (intro v2 w3 vs2 hown2 hraw2 hg2; have hb2 : Below w1.heap.size w1 w3 := HB1.out.grown hg2 HB1.out.size (fun k hk => (HO1.out.lt k hk).1); have HB2 := Lib.hid hb2; have HO2 := Lib.hid hown2; have HR2 := Lib.hid hraw2; clear hown2 hraw2 hg2 hb2)))
  rw [Nat.zero_add] at HO2
  obtain ⟨R, rc, rfl, hrc, hat, _⟩ := ((HR1.out.app HR2.out).later HB2.out).at_ HO2.out (by have := HS1.out; have := HS2.out; omega)
  have HRC := Lib.hid hrc
  have HR := Lib.hid hat
  have HAn := Lib.hid (HA.out.later HB2.out); clear HA; have HA := HAn; clear HAn
  have HBn := Lib.hid (HB.out.later HB2.out); clear HB; have HB := HBn; clear HBn
  have HLn := Lib.hid (HL.out.later HB2.out); clear HL; have HL := HLn; clear HLn
  have BBn := Lib.hid (BB.out.trans (HB2.out.mono BB.out.size)); clear BB; have BB := BBn; clear BBn
  clear hrc hat HO1 HO2 HR1 HR2 HB1 HB2
  have HL1 := fun w h h' => line_yes R (la + lb) rc (ua ++ ub) L n cap log (by have := HN.out; have := HE2.out; have := HN2.out; omega) HC.out HM3.out w h h'
  have HL2 := fun w h h' => line_yes A la lac ua L n cap log HN.out HC.out HM1.out w h h'
  have HL3 := fun w h h' => line_yes B lb lbc ub L2 n2 cap2 (log.drop la) HN2.out HCC.out HM2.out w h h'
  have hsum := sumR_parts log la lb
  have l1 := sumR_lt log la
  have l2 := sumR_lt (log.drop la) lb
  have l3 := sumR_lt log (la + lb)
  generalize sumR log (la + lb) = s0 at *
  generalize sumR log la = s1 at *
  generalize sumR (log.drop la) lb = s2 at *
  have e1 : IntKind.u64.wrap ((s1 : Int) + (s2 : Int)) = (s0 : Int) := by rw [IntKind.wrap_u64]; omega
  have e2 : IntKind.i64.wrap ((la : Int) + (lb : Int)) = ((la + lb : Nat) : Int) := by rw [IntKind.wrap_i64]; have := HS1.out; have := HS2.out; omega
  obtain ⟨lab, hlab⟩ : ∃ q, la + lb = q := ⟨_, rfl⟩
  rw [hlab] at e2 HL1 HR ⊢
  have HLAB := Lib.hid hlab
  clear hsum l1 l2 l3 hlab
  (with_reducible refine (HL1 _ HR HL).mono ?_)
  rintro e w4 ⟨rfl, hb4⟩
  go_upto_region 6 with fail
  have hbx4 : Below w4.heap.size w4 ((w4.alloc (.cells #[.int .i64 0, .int .i64 0, .int .u64 0, .int .u64 0, .slice none 0 0, .slice none 0 0] 43)).alloc (.cells #[.int .i64 0, .bool false, .int .i64 (lab : Int), .int .u64 (s0 : Int), .slice none 0 0] 52)) := below_pair _ _ _
  have V4 := Lib.hid ((VarAt.made w4 #[.int .i64 0, .int .i64 0, .int .u64 0, .int .u64 0, .slice none 0 0, .slice none 0 0] 43).below (al_below _ (.cells #[.int .i64 0, .bool false, .int .i64 (lab : Int), .int .u64 (s0 : Int), .slice none 0 0] 52)))
  have O4 := Lib.hid (VarAt.made1 w4 (.cells #[.int .i64 0, .int .i64 0, .int .u64 0, .int .u64 0, .slice none 0 0, .slice none 0 0] 43) #[.int .i64 0, .bool false, .int .i64 (lab : Int), .int .u64 (s0 : Int), .slice none 0 0] 52)
  generalize (w4.alloc (.cells #[.int .i64 0, .int .i64 0, .int .u64 0, .int .u64 0, .slice none 0 0, .slice none 0 0] 43)).alloc (.cells #[.int .i64 0, .bool false, .int .i64 (lab : Int), .int .u64 (s0 : Int), .slice none 0 0] 52) = x4 at hbx4 V4 O4 ⊢
  have hbn4 := hb4.trans (hbx4.mono hb4.size)
  have HAn := Lib.hid (HA.out.later hbn4); clear HA; have HA := HAn; clear HAn
  have HBn := Lib.hid (HB.out.later hbn4); clear HB; have HB := HBn; clear HBn
  have HLn := Lib.hid (HL.out.later hbn4); clear HL; have HL := HLn; clear HLn
  have HRn := Lib.hid (HR.out.later hbn4); clear HR; have HR := HRn; clear HRn
  have BBn := Lib.hid (BB.out.trans (hbn4.mono BB.out.size)); clear BB; have BB := BBn; clear BBn
  clear hb4 hbx4 hbn4
  go_wp2_with fail
  (with_reducible refine (HL2 _ HA HL).mono ?_)
  rintro e w5 ⟨rfl, hb5⟩
  have V4n := Lib.hid (V4.out.below hb5); clear V4; have V4 := V4n; clear V4n
  have O4n := Lib.hid (O4.out.below hb5); clear O4; have O4 := O4n; clear O4n
  go_upto_region 10 with fail
  have hbx5 : Below w5.heap.size w5 ((w5.alloc (.cells #[.int .i64 0, .int .i64 0, .int .u64 0, .int .u64 0, .slice none 0 0, .slice none 0 0] 43)).alloc (.cells #[.int .i64 0, .bool false, .int .i64 (la : Int), .int .u64 (s1 : Int), .slice none 0 0] 52)) := below_pair _ _ _
  have V5 := Lib.hid ((VarAt.made w5 #[.int .i64 0, .int .i64 0, .int .u64 0, .int .u64 0, .slice none 0 0, .slice none 0 0] 43).below (al_below _ (.cells #[.int .i64 0, .bool false, .int .i64 (la : Int), .int .u64 (s1 : Int), .slice none 0 0] 52)))
  have O5 := Lib.hid (VarAt.made1 w5 (.cells #[.int .i64 0, .int .i64 0, .int .u64 0, .int .u64 0, .slice none 0 0, .slice none 0 0] 43) #[.int .i64 0, .bool false, .int .i64 (la : Int), .int .u64 (s1 : Int), .slice none 0 0] 52)
  generalize (w5.alloc (.cells #[.int .i64 0, .int .i64 0, .int .u64 0, .int .u64 0, .slice none 0 0, .slice none 0 0] 43)).alloc (.cells #[.int .i64 0, .bool false, .int .i64 (la : Int), .int .u64 (s1 : Int), .slice none 0 0] 52) = x5 at hbx5 V5 O5 ⊢
  have V4n := Lib.hid (V4.out.below hbx5); clear V4; have V4 := V4n; clear V4n
  have O4n := Lib.hid (O4.out.below hbx5); clear O4; have O4 := O4n; clear O4n
  have hbn5 := hb5.trans (hbx5.mono hb5.size)
  have HAn := Lib.hid (HA.out.later hbn5); clear HA; have HA := HAn; clear HAn
  have HBn := Lib.hid (HB.out.later hbn5); clear HB; have HB := HBn; clear HBn
  have HLn := Lib.hid (HL.out.later hbn5); clear HL; have HL := HLn; clear HLn
  have HRn := Lib.hid (HR.out.later hbn5); clear HR; have HR := HRn; clear HRn
  have BBn := Lib.hid (BB.out.trans (hbn5.mono BB.out.size)); clear BB; have BB := BBn; clear BBn
  clear hb5 hbx5 hbn5
  go_wp2_with fail
  (with_reducible refine (HL3 _ HB (Lib.hid (HCUT _ HL.out))).mono ?_)
  rintro e w6 ⟨rfl, hb6⟩
  have V4n := Lib.hid (V4.out.below hb6); clear V4; have V4 := V4n; clear V4n
  have O4n := Lib.hid (O4.out.below hb6); clear O4; have O4 := O4n; clear O4n
  have O5n := Lib.hid (O5.out.below hb6); clear O5; have O5 := O5n; clear O5n
  go_upto_region 11 with fail
  have hbx6 : Below w6.heap.size w6 ((w6.alloc (.cells #[.int .i64 0, .int .i64 0, .int .u64 0, .int .u64 0, .slice none 0 0, .slice none 0 0] 43)).alloc (.cells #[.int .i64 0, .bool false, .int .i64 (lb : Int), .int .u64 (s2 : Int), .slice none 0 0] 52)) := below_pair _ _ _
  have V6 := Lib.hid ((VarAt.made w6 #[.int .i64 0, .int .i64 0, .int .u64 0, .int .u64 0, .slice none 0 0, .slice none 0 0] 43).below (al_below _ (.cells #[.int .i64 0, .bool false, .int .i64 (lb : Int), .int .u64 (s2 : Int), .slice none 0 0] 52)))
  have O6 := Lib.hid (VarAt.made1 w6 (.cells #[.int .i64 0, .int .i64 0, .int .u64 0, .int .u64 0, .slice none 0 0, .slice none 0 0] 43) #[.int .i64 0, .bool false, .int .i64 (lb : Int), .int .u64 (s2 : Int), .slice none 0 0] 52)
  generalize (w6.alloc (.cells #[.int .i64 0, .int .i64 0, .int .u64 0, .int .u64 0, .slice none 0 0, .slice none 0 0] 43)).alloc (.cells #[.int .i64 0, .bool false, .int .i64 (lb : Int), .int .u64 (s2 : Int), .slice none 0 0] 52) = x6 at hbx6 V6 O6 ⊢
  have V4n := Lib.hid (V4.out.below hbx6); clear V4; have V4 := V4n; clear V4n
  have O4n := Lib.hid (O4.out.below hbx6); clear O4; have O4 := O4n; clear O4n
  have O5n := Lib.hid (O5.out.below hbx6); clear O5; have O5 := O5n; clear O5n
  have hbn6 := hb6.trans (hbx6.mono hb6.size)
  have HAn := Lib.hid (HA.out.later hbn6); clear HA; have HA := HAn; clear HAn
  have HBn := Lib.hid (HB.out.later hbn6); clear HB; have HB := HBn; clear HBn
  have HLn := Lib.hid (HL.out.later hbn6); clear HL; have HL := HLn; clear HLn
  have HRn := Lib.hid (HR.out.later hbn6); clear HR; have HR := HRn; clear HRn
  have BBn := Lib.hid (BB.out.trans (hbn6.mono BB.out.size)); clear BB; have BB := BBn; clear BBn
  clear hb6 hbx6 hbn6
  obtain ⟨_, ⟨a0, a1, a2, a3, a4, a5⟩, _⟩ := V4.out.six
  obtain ⟨_, ⟨b0, b1, b2, b3, b4, b5⟩, _⟩ := V6.out.six
  go_wp2_with fail
  (with_reducible refine (asks_zero _).mono ?_)
  rintro e w7 ⟨rfl, hb7⟩
  obtain ⟨_, ⟨p1, p2, p3, p4, p5⟩, _⟩ := (O4.out.below hb7).five
  obtain ⟨_, ⟨q1, q2, q3, q4, q5⟩, _⟩ := (O5.out.below hb7).five
  obtain ⟨_, ⟨r1, r2, r3, r4, r5⟩, _⟩ := (O6.out.below hb7).five
  have BBn := Lib.hid (BB.out.trans (hb7.mono BB.out.size)); clear BB; have BB := BBn; clear BBn
  clear hb7 a0 a1 a2 a3 a4 a5 b0 b1 b2 b3 b4 b5
  go_wp2_with fail
  go_ret
  exact ⟨rfl, BB.out⟩
section
set_option maxRecDepth 100000
set_option maxHeartbeats 2000000
variable {H : Type} {enc : TypeId × Value → H} {w : World}
theorem open_a {v : Value} {d : DataW H} {ps : List MemPlace} {base : Nat} (hval : Value.okWide Try.prog w .any base 46 v) (h : DataW.Trod enc Try.prog w 0 (fun _ => true) true 46 v d ps) (hs : Sized Try.prog 46 d) (hlt : ∀ z ∈ ps, z.block < w.heap.size) :
    ∃ (aA : Option Addr) (aL aC : Nat) (al : List Acc), v = .slice aA aL aC ∧ (aL ≤ aC ∧ AccsAt w aA aL al) := by
  obtain ⟨a0, len, cap, rfl⟩ := okWide_slice Try.underlying46 hval
  obtain ⟨fuel, hf0⟩ := h
  have hf : DataW.trod enc Try.prog w 0 (fun _ => true) true fuel 46 [.slice a0 len cap] = some (d, ps) := hf0
  obtain ⟨aA, aL, aC, al, e0, ha⟩ := leaf_accs hf hs hlt
  cases e0
  exact ⟨_, _, _, _, rfl, ha⟩
theorem open_b {v : Value} {d : DataW H} {ps : List MemPlace} {base : Nat} (hval : Value.okWide Try.prog w .any base 46 v) (h : DataW.Trod enc Try.prog w 0 (fun _ => true) true 46 v d ps) (hs : Sized Try.prog 46 d) (hlt : ∀ z ∈ ps, z.block < w.heap.size) :
    ∃ (bA : Option Addr) (bL bC : Nat) (bl : List Acc), v = .slice bA bL bC ∧ (bL ≤ bC ∧ AccsAt w bA bL bl) := by
  obtain ⟨a0, len, cap, rfl⟩ := okWide_slice Try.underlying46 hval
  obtain ⟨fuel, hf0⟩ := h
  have hf : DataW.trod enc Try.prog w 0 (fun _ => true) true fuel 46 [.slice a0 len cap] = some (d, ps) := hf0
  obtain ⟨bA, bL, bC, bl, e0, hb⟩ := leaf_accs hf hs hlt
  cases e0
  exact ⟨_, _, _, _, rfl, hb⟩
theorem open_g {v : Value} {d : DataW H} {ps : List MemPlace} {base : Nat} (hval : Value.okWide Try.prog w .any base 47 v) (h : DataW.Trod enc Try.prog w 0 (fun _ => true) true 47 v d ps) (hs : Sized Try.prog 47 d) (hlt : ∀ z ∈ ps, z.block < w.heap.size) :
    ∃ (gA : Option Addr) (gL gC : Nat) (gl : List Res), v = .slice gA gL gC ∧ (gL ≤ gC ∧ LogAt w gA gL gl) := by
  obtain ⟨a0, len, cap, rfl⟩ := okWide_slice Try.underlying47 hval
  obtain ⟨fuel, hf0⟩ := h
  have hf : DataW.trod enc Try.prog w 0 (fun _ => true) true fuel 47 [.slice a0 len cap] = some (d, ps) := hf0
  obtain ⟨gA, gL, gC, gl, e0, hg⟩ := leaf_logs hf hs hlt
  cases e0
  exact ⟨_, _, _, _, rfl, hg⟩
end

set_option maxRecDepth 100000 in
set_option maxHeartbeats 8000000 in
theorem lifted (os : Os) (started : os.Started) (H : Type) (enc : TypeId × Value → H) :
    ReturnsInHanded {} Try.checked os 6 .any (Rows.playPartsSpec.pre6 enc Try.prog Try.f6 Rows.playPartsRow.domain false) (Rows.playPartsSpec.post enc Try.prog Try.f6 false true false false) := by
  refine law_lifted (C := Try.checked) own started (by kernel_rfl) Try.func6
    (ChangeSpec.witness6 (enc := enc) (C := Try.checked) false ⟨#[], #[.slice none 0 0, .slice none 0 0, .slice none 0 0], []⟩ 8 (by kernel_rfl) (by kernel_rfl) (by kernel_rfl) (by kernel_rfl))
    (by kernel_rfl) (by kernel_rfl) Try.underlying4 rfl (by kernel_rfl) ?_
  intro W base args ds before hval hA hwt hlt
  have hA' : DataW.TrodAll enc Try.prog W 0 (fun _ => true) true Try.f6.params.toList args.toList ds before := hA
  have hval' : ∀ (j : Nat) t v, Try.f6.params[j]? = some t → args[j]? = some v → Value.okWide Try.prog W .any base t v := hval
  have hwt' : (DataW.weightsEach Try.prog Try.f6.params.toList ds).all (· ≤ reachBytes) = true := hwt
  rw [Try.params6] at hA' hval' hwt'
  obtain ⟨v0, vs0, d0, ds0, p0, q0, hargs, rfl, rfl, k0, r0⟩ := trodAll_cons hA'
  obtain ⟨v1, vs1, d1, ds1, p1, q1, rfl, rfl, rfl, k1, r1⟩ := trodAll_cons r0
  obtain ⟨v2, vs2, d2, ds2, p2, q2, rfl, rfl, rfl, k2, r2⟩ := trodAll_cons r1
  obtain ⟨rfl, rfl, rfl⟩ := trodAll_nil r2
  obtain rfl : args = #[v0, v1, v2] := by cases args; simp_all
  obtain ⟨aA, aL, aC, al, rfl, ha⟩ := open_a (hval' 0 46 v0 rfl rfl) k0 (sized_of hwt' (j := 0) (t := 46) rfl rfl) (fun x hx => hlt x (by simp [hx]))
  obtain ⟨bA, bL, bC, bl, rfl, hb⟩ := open_b (hval' 1 46 v1 rfl rfl) k1 (sized_of hwt' (j := 1) (t := 46) rfl rfl) (fun x hx => hlt x (by simp [hx]))
  obtain ⟨gA, gL, gC, gl, rfl, hg⟩ := open_g (hval' 2 47 v2 rfl rfl) k2 (sized_of hwt' (j := 2) (t := 47) rfl rfl) (fun x hx => hlt x (by simp [hx]))
  refine ⟨rfl, ?_⟩
  obtain ⟨_, hlat⟩ := ha
  obtain ⟨_, hbat⟩ := hb
  obtain ⟨hgc, hgat⟩ := hg
  by_cases hf1 : fewA al aL 30 = true
  · by_cases hf2 : fewA bl bL 30 = true
    · by_cases h1 : 80 < gL
      · exact walkC aA aL aC al bA bL bC bl gA gL gC gl hf1 hf2 h1 W (Lib.hid hlat) (Lib.hid hbat) (Lib.hid hgat)
      by_cases h2 : gL < aL
      · exact walk_ahead aA aL aC al bA bL bC bl gA gL gC gl hf1 hf2 (by omega) hgc h2 W (Lib.hid hlat) (Lib.hid hbat) (Lib.hid hgat)
      by_cases h3 : gL - aL < bL
      · exact walk_in aA aL aC al bA bL bC bl gA gL gC gl hf1 hf2 (by omega) hgc (by omega) h3 W (Lib.hid hlat) (Lib.hid hbat) (Lib.hid hgat)
      · exact walk_behind aA aL aC al bA bL bC bl gA gL gC gl hf1 hf2 (by omega) hgc (by omega) (by omega) W (Lib.hid hlat) (Lib.hid hbat) (Lib.hid hgat)
    · exact walkB aA aL aC al bA bL bC bl gA gL gC gl hf1 (by simpa using hf2) W (Lib.hid hlat) (Lib.hid hbat) (Lib.hid hgat)
  · exact walkA aA aL aC al bA bL bC bl gA gL gC gl (by simpa using hf1) W (Lib.hid hlat) (Lib.hid hbat) (Lib.hid hgat)

theorem over : Rows.playPartsRow.holds Try.pinned (OpenSpec.ofChange Rows.playPartsSpec) :=
  OpenClaim.holds_of_wide 6 Try.f6 rfl rfl rfl rfl rfl rfl rfl ⟨rfl, rfl, rfl, rfl, rfl⟩ rfl rfl rfl rfl rfl (by kernel_rfl) Try.func6 (by kernel_rfl)
    (of_decide_eq_true (by kernel_rfl)) (by unfold Func.isWrapper; first | (rw [if_pos (by decide +kernel)]; kernel_rfl) | (rw [if_neg (by decide +kernel)]; exact ⟨rfl, rfl⟩))
    (fun os started H enc _ => lifted os started H enc)

/-- The statement. -/
theorem proved : Rows.PlayPartsSaid :=
  over
#print axioms proved
end Go.Proofs.Ytjbhichgojjakaa.playParts
