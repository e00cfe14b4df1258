/-
  DiskTells: disks behind calls, and codes, are as the document says; for every disk of 8 streams a row, 4000 bytes, every numbers. No condition beyond the statement's own.
-/
import Derived.Test.YtfggnmmiifjilaaDskShown
import Derived.Test.YtfggnmmiifjilaaDskOpen
import Derived.Test.YtfggnmmiifjilaaDskRefCrash2
import Derived.Test.YtfggnmmiifjilaaLaw
import Derived.Deep.RegionHeld3
namespace Go.Proofs.Ytfggnmmiifjilaa.diskTells
open Go.ChangeShapes Go.WideShapes Go.ChangeAt Go.RowKit
set_option linter.unusedVariables false
theorem own : ownKnob Try.prog.godebug = none := by kernel_rfl

theorem right_len {l0 l1 : List Stm} (h : rightD l0 l1 = true) : l0.length = l1.length ∧ allB l0 = true ∧ allB l1 = true ∧ 1 ≤ l0.length ∧ l0.length ≤ 64 := by
  unfold rightD countB at h
  simp only [Bool.and_eq_true, decide_eq_true_eq] at h
  exact ⟨h.1.1, h.1.2.1, h.1.2.2, by omega, by omega⟩
theorem newBoth (t : Int) : ∃ (N : Nat) (Z : List Stm) (c : Int), (∀ w, Calls Try.prog 10 #[.int .i64 t] w (DskPostC w 0 none none N N Z Z c)) ∧ (∀ w, Calls Try.prog 11 #[.int .i64 t] w (DskPostC w 0 none none N N Z Z c)) ∧ True := by
  by_cases h : countB t = true
  · have h2 := h
    unfold countB at h2
    simp only [Bool.and_eq_true, decide_eq_true_eq] at h2
    obtain ⟨k, rfl⟩ := Int.eq_ofNat_of_zero_le (show 0 ≤ t by omega)
    exact ⟨k, zerosS k, 0, fun w => dskNew_yes k (by omega) (by omega) w, fun w => refNew_yes k (by omega) (by omega) w, trivial⟩
  · have h' : countB t = false := by simpa using h
    exact ⟨0, [], 1, fun w => dskNew_no t h' w, fun w => refNew_no t h' w, trivial⟩
theorem has_cases (row i : Int) (n : Nat) : (row = 0 ∧ ∃ k : Nat, i = (k : Int) ∧ k < n) ∨ (row = 1 ∧ ∃ k : Nat, i = (k : Int) ∧ k < n) ∨ (hasB row i n n = false ∧ (rowB row && isB i n) = false) := by
  have e : hasB row i n n = (rowB row && isB i n) := by unfold hasB; split <;> rfl
  by_cases h : (rowB row && isB i n) = true
  · simp only [Bool.and_eq_true] at h
    obtain ⟨k, hk, hl⟩ := isB_iff h.2
    rcases rowB_iff h.1 with rfl | rfl
    · exact .inl ⟨rfl, k, hk, hl⟩
    · exact .inr (.inl ⟨rfl, k, hk, hl⟩)
  · have h' : (rowB row && isB i n) = false := by simpa using h
    exact .inr (.inr ⟨by rw [e]; exact h', h'⟩)
section
variable (r : Int) (A : Option Addr) (n a : Nat) (B : Option Addr) (b : Nat) (l0 l1 : List Stm) (row i : Int)
theorem appendBoth (C : Option Addr) (j jc : Nat) (ys : List Nat) (hn : n ≤ 8) (hx0 : ∀ x ∈ l0, x.bytes.length ≤ 4000) (hx1 : ∀ x ∈ l1, x.bytes.length ≤ 4000) (hj : j ≤ 500) (hl0 : l0.length = n) (hl1 : l1.length = n) : ∃ (P0 P1 : List Stm) (c : Int),
    (∀ w, Hid (StmsAt w A n l0) → Hid (StmsAt w B n l1) → Hid (AtB w C j ys) → Calls Try.prog 15 #[.agg #[.int .u64 r, .slice A n a, .slice B n b], .int .i64 row, .int .i64 i, .slice C j jc] w (DskPostC w r A B n n P0 P1 c)) ∧
    (∀ w, Hid (StmsAt w A n l0) → Hid (StmsAt w B n l1) → Hid (AtB w C j ys) → Calls Try.prog 16 #[.agg #[.int .u64 r, .slice A n a, .slice B n b], .int .i64 row, .int .i64 i, .slice C j jc] w (DskPostC w r A B n n P0 P1 c)) := by
  rcases has_cases row i n with ⟨rfl, k, rfl, hk⟩ | ⟨rfl, k, rfl, hk⟩ | ⟨h1, h2⟩
  · have hx : l0[k]? = some (l0[k]'(by omega)) := List.getElem?_eq_getElem _
    have hb := hx0 _ (List.mem_of_getElem? hx)
    exact ⟨_, _, _, fun w g0 g1 g2 => dskAppend0_at r A n a B n b l0 l1 k hk (by omega) _ hx C jc j ys (by omega) w g0 g1 g2, fun w g0 g1 g2 => refAppend0_at r A n a B n b l0 l1 k hk hk (by omega) _ hx C jc j ys (by omega) w g0 g1 g2⟩
  · have hx : l1[k]? = some (l1[k]'(by omega)) := List.getElem?_eq_getElem _
    have hb := hx1 _ (List.mem_of_getElem? hx)
    exact ⟨_, _, _, fun w g0 g1 g2 => dskAppend1_at r A n a B n b l0 l1 k hk (by omega) _ hx C jc j ys (by omega) w g0 g1 g2, fun w g0 g1 g2 => refAppend1_at r A n a B n b l0 l1 k hk hk (by omega) _ hx C jc j ys (by omega) w g0 g1 g2⟩
  · exact ⟨_, _, _, fun w g0 g1 _ => dskAppend_no r A n a B n b l0 l1 row i h1 C jc j w g0 g1, fun w g0 g1 _ => refAppend_no r A n a B n b l0 l1 row i h2 C jc j w g0 g1⟩
theorem syncBoth (hn : n ≤ 8) (hl0 : l0.length = n) (hl1 : l1.length = n) : ∃ (P0 P1 : List Stm) (c : Int),
    (∀ w, Hid (StmsAt w A n l0) → Hid (StmsAt w B n l1) → Calls Try.prog 17 #[.agg #[.int .u64 r, .slice A n a, .slice B n b], .int .i64 row, .int .i64 i] w (DskPostC w r A B n n P0 P1 c)) ∧
    (∀ w, Hid (StmsAt w A n l0) → Hid (StmsAt w B n l1) → Calls Try.prog 18 #[.agg #[.int .u64 r, .slice A n a, .slice B n b], .int .i64 row, .int .i64 i] w (DskPostC w r A B n n P0 P1 c)) := by
  rcases has_cases row i n with ⟨rfl, k, rfl, hk⟩ | ⟨rfl, k, rfl, hk⟩ | ⟨h1, h2⟩
  · have hx : l0[k]? = some (l0[k]'(by omega)) := List.getElem?_eq_getElem _
    exact ⟨_, _, _, fun w g0 g1 => dskSync0_at r A n a B n b l0 l1 k hk (by omega) _ hx w g0 g1, fun w g0 g1 => refSync0_at r A n a B n b l0 l1 k hk hk (by omega) _ hx w g0 g1⟩
  · have hx : l1[k]? = some (l1[k]'(by omega)) := List.getElem?_eq_getElem _
    exact ⟨_, _, _, fun w g0 g1 => dskSync1_at r A n a B n b l0 l1 k hk (by omega) _ hx w g0 g1, fun w g0 g1 => refSync1_at r A n a B n b l0 l1 k hk hk (by omega) _ hx w g0 g1⟩
  · exact ⟨_, _, _, fun w g0 g1 => dskSync_no r A n a B n b l0 l1 row i h1 w g0 g1, fun w g0 g1 => refSync_no r A n a B n b l0 l1 row i h2 w g0 g1⟩
theorem readBoth (hl0 : l0.length = n) (hl1 : l1.length = n) : ∃ (xs : List Nat) (c : Int),
    (∀ w, Hid (StmsAt w A n l0) → Hid (StmsAt w B n l1) → Calls Try.prog 19 #[.agg #[.int .u64 r, .slice A n a, .slice B n b], .int .i64 row, .int .i64 i] w (ReadPost w xs c)) ∧
    (∀ w, Hid (StmsAt w A n l0) → Hid (StmsAt w B n l1) → Calls Try.prog 20 #[.agg #[.int .u64 r, .slice A n a, .slice B n b], .int .i64 row, .int .i64 i] w (ReadPost w xs c)) := by
  rcases has_cases row i n with ⟨rfl, k, rfl, hk⟩ | ⟨rfl, k, rfl, hk⟩ | ⟨h1, h2⟩
  · have hx : l0[k]? = some (l0[k]'(by omega)) := List.getElem?_eq_getElem _
    exact ⟨_, _, fun w g0 g1 => dskRead0_at r A n a B n b l0 l1 k hk _ hx w g0 g1, fun w g0 g1 => refRead0_at r A n a B n b l0 l1 k hk hk _ hx w g0 g1⟩
  · have hx : l1[k]? = some (l1[k]'(by omega)) := List.getElem?_eq_getElem _
    exact ⟨_, _, fun w g0 g1 => dskRead1_at r A n a B n b l0 l1 k hk _ hx w g0 g1, fun w g0 g1 => refRead1_at r A n a B n b l0 l1 k hk hk _ hx w g0 g1⟩
  · exact ⟨_, _, fun w g0 g1 => dskRead_no r A n a B n b row i h1 w, fun w g0 g1 => refRead_no r A n a B n b row i h2 w⟩
theorem clearBoth (hn : n ≤ 8) : ∃ (P0 P1 : List Stm) (c : Int),
    (∀ w, Hid (StmsAt w A n l0) → Hid (StmsAt w B n l1) → Calls Try.prog 21 #[.agg #[.int .u64 r, .slice A n a, .slice B n b], .int .i64 row] w (DskPostC w r A B n n P0 P1 c)) ∧
    (∀ w, Hid (StmsAt w A n l0) → Hid (StmsAt w B n l1) → Calls Try.prog 22 #[.agg #[.int .u64 r, .slice A n a, .slice B n b], .int .i64 row] w (DskPostC w r A B n n P0 P1 c)) := by
  by_cases h : rowB row = true
  · rcases rowB_iff h with rfl | rfl
    · exact ⟨_, _, _, fun w g0 g1 => dskClear0_at r A n a B n b l0 l1 (by omega) w g0 g1, fun w g0 g1 => refClear0_at r A n a B n b l0 l1 (by omega) w g0 g1⟩
    · exact ⟨_, _, _, fun w g0 g1 => dskClear1_at r A n a B n b l0 l1 (by omega) w g0 g1, fun w g0 g1 => refClear1_at r A n a B n b l0 l1 (by omega) w g0 g1⟩
  · have h' : rowB row = false := by simpa using h
    exact ⟨_, _, _, fun w g0 g1 => dskClear_no r A n a B n b l0 l1 row h' w g0 g1, fun w g0 g1 => refClear_no r A n a B n b l0 l1 row h' w g0 g1⟩
end

set_option maxRecDepth 100000 in
set_option maxHeartbeats 8000000 in
theorem walkFew (r : Nat) (A : Option Addr) (n a : Nat) (B : Option Addr) (m b : Nat) (l0 l1 : List Stm) (row i : Int) (C : Option Addr) (j jc : Nat) (D : Option Addr) (dn dc : Nat) (w : World) (h0 : Hid (StmsAt w A n l0)) (h1 : Hid (StmsAt w B m l1)) (hf : fewD l0 l1 = false) :
    Calls Try.prog 3 #[.agg #[.int .u64 (r : Int), .slice A n a, .slice B m b, .int .i64 row, .int .i64 i, .slice C j jc, .slice D dn dc]] w fun e w' => e = .returned (.bool true) ∧ Below w.heap.size w w' := by
  have HFEW := fun w h h' => few_at (r : Int) A n a B m b l0 l1 w h h'
  rw [hf] at HFEW
  go_enter Try.func3, Try.ntmps3
  go_wp2_with fail
  refine (shown_below _).mono ?_
  rintro e w1 ⟨rfl, hb⟩
  have BB := Lib.hid ((below_pair w _ _).trans (hb.mono (below_pair w _ _).size))
  have D1 : Hid (DAt w1 (w.heap.size + 1) (r : Int) A n a B m b l0 l1) := Lib.hid (DAt.below ⟨VarAt.three1 w (.int .u64 (r : Int)) (.slice A n a) (.slice B m b) (.cells #[.int .u64 (r : Int), .slice A n a, .slice B m b, .int .i64 row, .int .i64 i, .slice C j jc, .slice D dn dc] 30) 26, h0.out.later (below_pair w _ _), h1.out.later (below_pair w _ _)⟩ hb)
  clear hb
  obtain ⟨hz1, c0, c1, c2, f0, f1, f2⟩ := D1.out.1.three
  have S10 := Lib.hid D1.out.2.1
  have S11 := Lib.hid D1.out.2.2
  go_wp2_with (go_at_call 9; (with_reducible refine (HFEW _ S10 S11).mono ?_); rintro e w2 ⟨rfl, hbn⟩; have D2 := Lib.hid (D1.out.below hbn); have BB2 := Lib.hid (BB.out.trans (hbn.mono BB.out.size)); clear hbn hz1 c0 c1 c2 f0 f1 f2 D1 BB S10 S11)
  go_ret
  exact ⟨rfl, BB2.out⟩

set_option maxRecDepth 100000 in
set_option maxHeartbeats 8000000 in
theorem walkLongA (r : Nat) (A : Option Addr) (n a : Nat) (B : Option Addr) (m b : Nat) (l0 l1 : List Stm) (row i : Int) (C : Option Addr) (j jc : Nat) (D : Option Addr) (dn dc : Nat) (w : World) (h0 : Hid (StmsAt w A n l0)) (h1 : Hid (StmsAt w B m l1)) (hf : fewD l0 l1 = true) (hj : 500 < j) :
    Calls Try.prog 3 #[.agg #[.int .u64 (r : Int), .slice A n a, .slice B m b, .int .i64 row, .int .i64 i, .slice C j jc, .slice D dn dc]] w fun e w' => e = .returned (.bool true) ∧ Below w.heap.size w w' := by
  have HFEW := fun w h h' => few_at (r : Int) A n a B m b l0 l1 w h h'
  rw [hf] at HFEW
  have kd : decide ((500 : Int) < (j : Int)) = true := by rw [decide_eq_true_iff]; omega
  go_enter Try.func3, Try.ntmps3
  go_wp2_with fail
  refine (shown_below _).mono ?_
  rintro e w1 ⟨rfl, hb⟩
  have BB := Lib.hid ((below_pair w _ _).trans (hb.mono (below_pair w _ _).size))
  have D1 : Hid (DAt w1 (w.heap.size + 1) (r : Int) A n a B m b l0 l1) := Lib.hid (DAt.below ⟨VarAt.three1 w (.int .u64 (r : Int)) (.slice A n a) (.slice B m b) (.cells #[.int .u64 (r : Int), .slice A n a, .slice B m b, .int .i64 row, .int .i64 i, .slice C j jc, .slice D dn dc] 30) 26, h0.out.later (below_pair w _ _), h1.out.later (below_pair w _ _)⟩ hb)
  clear hb
  obtain ⟨hz1, c0, c1, c2, f0, f1, f2⟩ := D1.out.1.three
  have S10 := Lib.hid D1.out.2.1
  have S11 := Lib.hid D1.out.2.2
  go_wp2_with (go_at_call 9; (with_reducible refine (HFEW _ S10 S11).mono ?_); rintro e w2 ⟨rfl, hbn⟩; have D2 := Lib.hid (D1.out.below hbn); have BB2 := Lib.hid (BB.out.trans (hbn.mono BB.out.size)); clear hbn hz1 c0 c1 c2 f0 f1 f2 D1 BB S10 S11)
  go_ret
  exact ⟨rfl, BB2.out⟩

set_option maxRecDepth 100000 in
set_option maxHeartbeats 8000000 in
theorem walkLongB (r : Nat) (A : Option Addr) (n a : Nat) (B : Option Addr) (m b : Nat) (l0 l1 : List Stm) (row i : Int) (C : Option Addr) (j jc : Nat) (D : Option Addr) (dn dc : Nat) (w : World) (h0 : Hid (StmsAt w A n l0)) (h1 : Hid (StmsAt w B m l1)) (hf : fewD l0 l1 = true) (hj : j ≤ 500) (hd : 40 < dn) :
    Calls Try.prog 3 #[.agg #[.int .u64 (r : Int), .slice A n a, .slice B m b, .int .i64 row, .int .i64 i, .slice C j jc, .slice D dn dc]] w fun e w' => e = .returned (.bool true) ∧ Below w.heap.size w w' := by
  have HFEW := fun w h h' => few_at (r : Int) A n a B m b l0 l1 w h h'
  rw [hf] at HFEW
  have kd : decide ((500 : Int) < (j : Int)) = false := by rw [decide_eq_false_iff_not]; omega
  have ke : decide ((40 : Int) < (dn : Int)) = true := by rw [decide_eq_true_iff]; omega
  go_enter Try.func3, Try.ntmps3
  go_wp2_with fail
  refine (shown_below _).mono ?_
  rintro e w1 ⟨rfl, hb⟩
  have BB := Lib.hid ((below_pair w _ _).trans (hb.mono (below_pair w _ _).size))
  have D1 : Hid (DAt w1 (w.heap.size + 1) (r : Int) A n a B m b l0 l1) := Lib.hid (DAt.below ⟨VarAt.three1 w (.int .u64 (r : Int)) (.slice A n a) (.slice B m b) (.cells #[.int .u64 (r : Int), .slice A n a, .slice B m b, .int .i64 row, .int .i64 i, .slice C j jc, .slice D dn dc] 30) 26, h0.out.later (below_pair w _ _), h1.out.later (below_pair w _ _)⟩ hb)
  clear hb
  obtain ⟨hz1, c0, c1, c2, f0, f1, f2⟩ := D1.out.1.three
  have S10 := Lib.hid D1.out.2.1
  have S11 := Lib.hid D1.out.2.2
  go_wp2_with (go_at_call 9; (with_reducible refine (HFEW _ S10 S11).mono ?_); rintro e w2 ⟨rfl, hbn⟩; have D2 := Lib.hid (D1.out.below hbn); have BB2 := Lib.hid (BB.out.trans (hbn.mono BB.out.size)); clear hbn hz1 c0 c1 c2 f0 f1 f2 D1 BB S10 S11)
  go_ret
  exact ⟨rfl, BB2.out⟩

set_option maxRecDepth 100000 in
set_option maxHeartbeats 8000000 in
theorem walkWrong (r : Nat) (A : Option Addr) (n a : Nat) (B : Option Addr) (m b : Nat) (l0 l1 : List Stm) (row i : Int) (C : Option Addr) (j jc : Nat) (ys : List Nat) (D : Option Addr) (dn dc : Nat) (f : Nat → Int) (w : World) (h0 : Hid (StmsAt w A n l0)) (h1 : Hid (StmsAt w B m l1)) (hC : Hid (AtB w C j ys)) (hD : Hid (AtI w D dn f)) (hf : fewD l0 l1 = true) (hj : j ≤ 500) (hd : dn ≤ 40) (hr2 : r < 18446744073709551616) (hr : rightD l0 l1 = false) :
    Calls Try.prog 3 #[.agg #[.int .u64 (r : Int), .slice A n a, .slice B m b, .int .i64 row, .int .i64 i, .slice C j jc, .slice D dn dc]] w fun e w' => e = .returned (.bool true) ∧ Below w.heap.size w w' := by
  have HFEW := fun w h h' => few_at (r : Int) A n a B m b l0 l1 w h h'
  rw [hf] at HFEW
  have kd : decide ((500 : Int) < (j : Int)) = false := by rw [decide_eq_false_iff_not]; omega
  have ke : decide ((40 : Int) < (dn : Int)) = false := by rw [decide_eq_false_iff_not]; omega
  have HRIGHT := fun w h h' => refRightD_at (r : Int) A n a B m b l0 l1 w h h'
  have HRIGHT2 := fun w h h' => diskRight_at (r : Int) A n a B m b l0 l1 w h h'
  rw [hr] at HRIGHT HRIGHT2
  obtain ⟨N, Z, z, HNEW, HNEWR, _⟩ := newBoth i
  clear hf hr hj hd
  go_enter Try.func3, Try.ntmps3
  go_wp2_with fail
  refine (shown_below _).mono ?_
  rintro e w1 ⟨rfl, hb⟩
  have BB := Lib.hid ((below_pair w _ _).trans (hb.mono (below_pair w _ _).size))
  have D1 : Hid (DAt w1 (w.heap.size + 1) (r : Int) A n a B m b l0 l1) := Lib.hid (DAt.below ⟨VarAt.three1 w (.int .u64 (r : Int)) (.slice A n a) (.slice B m b) (.cells #[.int .u64 (r : Int), .slice A n a, .slice B m b, .int .i64 row, .int .i64 i, .slice C j jc, .slice D dn dc] 30) 26, h0.out.later (below_pair w _ _), h1.out.later (below_pair w _ _)⟩ hb)
  clear hb
  obtain ⟨hz1, c0, c1, c2, f0, f1, f2⟩ := D1.out.1.three
  have S10 := Lib.hid D1.out.2.1
  have S11 := Lib.hid D1.out.2.2
  go_wp2_with (go_at_call 9; (with_reducible refine (HFEW _ S10 S11).mono ?_); rintro e w2 ⟨rfl, hbn⟩; have D2 := Lib.hid (D1.out.below hbn); have BB2 := Lib.hid (BB.out.trans (hbn.mono BB.out.size)); clear hbn hz1 c0 c1 c2 f0 f1 f2 D1 BB S10 S11)
  have D0 := D2
  have BB := BB2
  have HC0 := Lib.hid (AtB.below hC.out BB.out (Nat.le_refl _))
  have HD0 := Lib.hid (hD.out.later BB.out)
  clear D2 BB2 HFEW
  refine (HNEW _).mono ?_
  rintro e w4 ⟨A4, a4, B4, b4, rfl, s0, s1, hb, _⟩
  obtain ⟨x4, hx4⟩ : ∃ x, w4.alloc (.cells #[.int .u64 0, .slice A4 N a4, .slice B4 N b4] 26) = x := ⟨_, rfl⟩
  have hbx : Below w4.heap.size w4 x4 := by rw [← hx4]; exact al_below _ _
  have D4 : Hid (DAt x4 w4.heap.size 0 A4 N a4 B4 N b4 Z Z) := Lib.hid (by rw [← hx4]; exact DAt.made s0 s1 _)
  have hbn := hb.trans (hbx.mono hb.size)
  have D0n := Lib.hid (D0.out.below hbn); clear D0; have D0 := D0n; clear D0n
  have HC0n := Lib.hid (AtB.later HC0 hbn); clear HC0; have HC0 := HC0n; clear HC0n
  have HD0n := Lib.hid (AtI.later HD0.out hbn); clear HD0; have HD0 := HD0n; clear HD0n
  have BBn := Lib.hid (BB.out.trans (hbn.mono BB.out.size)); clear BB; have BB := BBn; clear BBn
  clear s0 s1 hb hbx hbn
  go_wp2_with fail
  refine (HNEWR _).mono ?_
  rintro e w6 ⟨A6, a6, B6, b6, rfl, s0, s1, hb, _⟩
  obtain ⟨x6, hx6⟩ : ∃ x, w6.alloc (.cells #[.int .u64 0, .slice A6 N a6, .slice B6 N b6] 26) = x := ⟨_, rfl⟩
  have hbx : Below w6.heap.size w6 x6 := by rw [← hx6]; exact al_below _ _
  have D6 : Hid (DAt x6 w6.heap.size 0 A6 N a6 B6 N b6 Z Z) := Lib.hid (by rw [← hx6]; exact DAt.made s0 s1 _)
  have hbn := hb.trans (hbx.mono hb.size)
  have D0n := Lib.hid (D0.out.below hbn); clear D0; have D0 := D0n; clear D0n
  have D4n := Lib.hid (D4.out.below hbn); clear D4; have D4 := D4n; clear D4n
  have HC0n := Lib.hid (AtB.later HC0 hbn); clear HC0; have HC0 := HC0n; clear HC0n
  have HD0n := Lib.hid (AtI.later HD0.out hbn); clear HD0; have HD0 := HD0n; clear HD0n
  have BBn := Lib.hid (BB.out.trans (hbn.mono BB.out.size)); clear BB; have BB := BBn; clear BBn
  clear s0 s1 hb hbx hbn
  obtain ⟨hz, c0, c1, c2, f0, f1, f2⟩ := D0.out.1.three
  have S0 := Lib.hid D0.out.2.1
  have S1 := Lib.hid D0.out.2.2
  go_wp2_with fail
  clear hz c0 c1 c2 f0 f1 f2
  refine (HRIGHT _ S0 S1).mono ?_
  rintro e w8 ⟨rfl, hbn⟩
  have D0n := Lib.hid (D0.out.below hbn); clear D0; have D0 := D0n; clear D0n
  have D4n := Lib.hid (D4.out.below hbn); clear D4; have D4 := D4n; clear D4n
  have D6n := Lib.hid (D6.out.below hbn); clear D6; have D6 := D6n; clear D6n
  have HC0n := Lib.hid (AtB.later HC0 hbn); clear HC0; have HC0 := HC0n; clear HC0n
  have HD0n := Lib.hid (AtI.later HD0.out hbn); clear HD0; have HD0 := HD0n; clear HD0n
  have BBn := Lib.hid (BB.out.trans (hbn.mono BB.out.size)); clear BB; have BB := BBn; clear BBn
  clear hbn S0 S1
  obtain ⟨hz, c0, c1, c2, f0, f1, f2⟩ := D0.out.1.three
  obtain ⟨hz4, d0, d1, d2, _, _, _⟩ := D4.out.1.three
  obtain ⟨hz6, e0, e1, e2, _, _, _⟩ := D6.out.1.three
  have S0 := Lib.hid D0.out.2.1
  have S1 := Lib.hid D0.out.2.2
  have N40 := Lib.hid D4.out.2.1
  have N41 := Lib.hid D4.out.2.2
  have N60 := Lib.hid D6.out.2.1
  have N61 := Lib.hid D6.out.2.2
  clear D4 D6
  go_wp2_with (first | (go_at_call 13; (with_reducible refine (sameD_at 0 A4 N a4 B4 N b4 A6 a6 B6 b6 Z Z _ N40 N41 N60 N61).mono ?_); rintro e w9 ⟨rfl, hbn⟩; have D0n := Lib.hid (D0.out.below hbn); clear D0; have D0 := D0n; clear D0n; have HC0n := Lib.hid (AtB.later HC0 hbn); clear HC0; have HC0 := HC0n; clear HC0n; have HD0n := Lib.hid (AtI.later HD0.out hbn); clear HD0; have HD0 := HD0n; clear HD0n; have BBn := Lib.hid (BB.out.trans (hbn.mono BB.out.size)); clear BB; have BB := BBn; clear BBn; clear hbn hz c0 c1 c2 f0 f1 f2 hz4 d0 d1 d2 hz6 e0 e1 e2 S0 S1 N40 N41 N60 N61; obtain ⟨hz, c0, c1, c2, f0, f1, f2⟩ := D0.out.1.three; have S0 := Lib.hid D0.out.2.1; have S1 := Lib.hid D0.out.2.2) | (go_at_call 14; (with_reducible refine (HRIGHT2 _ S0 S1).mono ?_); rintro e w10 ⟨rfl, hbn⟩; have D0n := Lib.hid (D0.out.below hbn); clear D0; have D0 := D0n; clear D0n; have HC0n := Lib.hid (AtB.later HC0 hbn); clear HC0; have HC0 := HC0n; clear HC0n; have HD0n := Lib.hid (AtI.later HD0.out hbn); clear HD0; have HD0 := HD0n; clear HD0n; have BBn := Lib.hid (BB.out.trans (hbn.mono BB.out.size)); clear BB; have BB := BBn; clear BBn; clear hbn hz c0 c1 c2 f0 f1 f2 S0 S1))
  go_ret
  exact ⟨rfl, BB.out⟩

set_option maxRecDepth 100000 in
set_option maxHeartbeats 8000000 in
theorem walk (r : Nat) (A : Option Addr) (n a : Nat) (B : Option Addr) (b : Nat) (l0 l1 : List Stm) (row i : Int) (C : Option Addr) (j jc : Nat) (ys : List Nat) (D : Option Addr) (dn dc : Nat) (f : Nat → Int) (w : World) (h0 : Hid (StmsAt w A n l0)) (h1 : Hid (StmsAt w B n l1)) (hC : Hid (AtB w C j ys)) (hD : Hid (AtI w D dn f)) (hf : fewD l0 l1 = true) (hj : j ≤ 500) (hd : dn ≤ 40) (hr2 : r < 18446744073709551616) (hdc : dn ≤ dc) (hr : rightD l0 l1 = true) (hr0 : allB l0 = true) (hr1 : allB l1 = true) (hn1 : 1 ≤ n) (hn8 : n ≤ 8) (hx0 : ∀ x ∈ l0, x.bytes.length ≤ 4000) (hx1 : ∀ x ∈ l1, x.bytes.length ≤ 4000) :
    Calls Try.prog 3 #[.agg #[.int .u64 (r : Int), .slice A n a, .slice B n b, .int .i64 row, .int .i64 i, .slice C j jc, .slice D dn dc]] w fun e w' => e = .returned (.bool true) ∧ Below w.heap.size w w' := by
  have HFEW := fun w h h' => few_at (r : Int) A n a B n b l0 l1 w h h'
  rw [hf] at HFEW
  have kd : decide ((500 : Int) < (j : Int)) = false := by rw [decide_eq_false_iff_not]; omega
  have ke : decide ((40 : Int) < (dn : Int)) = false := by rw [decide_eq_false_iff_not]; omega
  have HRIGHT := fun w h h' => refRightD_at (r : Int) A n a B n b l0 l1 w h h'
  have HRIGHT2 := fun w h h' => diskRight_at (r : Int) A n a B n b l0 l1 w h h'
  rw [hr] at HRIGHT HRIGHT2
  obtain ⟨N, Z, z, HNEW, HNEWR, _⟩ := newBoth i
  obtain ⟨P0, P1, cp, HAPP, HAPPR⟩ := appendBoth (r : Int) A n a B b l0 l1 row i C j jc ys hn8 hx0 hx1 hj h0.out.1 h1.out.1
  obtain ⟨Q0, Q1, cq, HSYN, HSYNR⟩ := syncBoth (r : Int) A n a B b l0 l1 row i hn8 h0.out.1 h1.out.1
  obtain ⟨xs, cx, HREAD, HREADR⟩ := readBoth (r : Int) A n a B b l0 l1 row i h0.out.1 h1.out.1
  obtain ⟨U0, U1, cu, HCLR, HCLRR⟩ := clearBoth (r : Int) A n a B b l0 l1 row hn8
  have HCR := fun w h h' h'' => crash_at (r : Int) A n a B n b l0 l1 (by omega) (by omega) hr0 hr1 D dn dc hdc f w h h' h''
  have HCRR := fun w h h' h'' => refCrash_at (r : Int) A n a B b l0 l1 hn1 (by omega) hr0 hr1 (fun x hx => by have := hx0 x hx; omega) (fun x hx => by have := hx1 x hx; omega) D dn dc f w h h' h''
  have HROW := fun w => row_any r hr2 (.slice A n a) (.slice B n b) rfl rfl w
  obtain ⟨q2, hq2⟩ : ∃ q2, r % 2 = q2 := ⟨_, rfl⟩
  rw [hq2] at HROW
  have kr1 : (r : Int).tmod 2 = (q2 : Int) := by rw [Int.tmod_eq_emod_of_nonneg (by omega)]; omega
  have kr2 : (r : Int) % 2 = (q2 : Int) := by omega
  have kq2 : q2 < 2 := by omega
  have kqw : IntKind.i64.wrap (q2 : Int) = (q2 : Int) := by rw [IntKind.wrap_i64]; omega
  generalize cutL l0 (moreAt dn f) = V0 at *
  generalize (cutL l1 fun j => moreAt dn f (n + j)) = V1 at *
  clear hq2 hr0 hr1 hn1 hn8 hx0 hx1 hdc
  clear hf hr hj hd
  go_enter Try.func3, Try.ntmps3
  go_wp2_with fail
  refine (shown_below _).mono ?_
  rintro e w1 ⟨rfl, hb⟩
  have BB := Lib.hid ((below_pair w _ _).trans (hb.mono (below_pair w _ _).size))
  have D1 : Hid (DAt w1 (w.heap.size + 1) (r : Int) A n a B n b l0 l1) := Lib.hid (DAt.below ⟨VarAt.three1 w (.int .u64 (r : Int)) (.slice A n a) (.slice B n b) (.cells #[.int .u64 (r : Int), .slice A n a, .slice B n b, .int .i64 row, .int .i64 i, .slice C j jc, .slice D dn dc] 30) 26, h0.out.later (below_pair w _ _), h1.out.later (below_pair w _ _)⟩ hb)
  clear hb
  obtain ⟨hz1, c0, c1, c2, f0, f1, f2⟩ := D1.out.1.three
  have S10 := Lib.hid D1.out.2.1
  have S11 := Lib.hid D1.out.2.2
  go_wp2_with (go_at_call 9; (with_reducible refine (HFEW _ S10 S11).mono ?_); rintro e w2 ⟨rfl, hbn⟩; have D2 := Lib.hid (D1.out.below hbn); have BB2 := Lib.hid (BB.out.trans (hbn.mono BB.out.size)); clear hbn hz1 c0 c1 c2 f0 f1 f2 D1 BB S10 S11)
  have D0 := D2
  have BB := BB2
  have HC0 := Lib.hid (AtB.below hC.out BB.out (Nat.le_refl _))
  have HD0 := Lib.hid (hD.out.later BB.out)
  clear D2 BB2 HFEW
  refine (HNEW _).mono ?_
  rintro e w4 ⟨A4, a4, B4, b4, rfl, s0, s1, hb, _⟩
  obtain ⟨x4, hx4⟩ : ∃ x, w4.alloc (.cells #[.int .u64 0, .slice A4 N a4, .slice B4 N b4] 26) = x := ⟨_, rfl⟩
  have hbx : Below w4.heap.size w4 x4 := by rw [← hx4]; exact al_below _ _
  have D4 : Hid (DAt x4 w4.heap.size 0 A4 N a4 B4 N b4 Z Z) := Lib.hid (by rw [← hx4]; exact DAt.made s0 s1 _)
  have hbn := hb.trans (hbx.mono hb.size)
  have D0n := Lib.hid (D0.out.below hbn); clear D0; have D0 := D0n; clear D0n
  have HC0n := Lib.hid (AtB.later HC0 hbn); clear HC0; have HC0 := HC0n; clear HC0n
  have HD0n := Lib.hid (AtI.later HD0.out hbn); clear HD0; have HD0 := HD0n; clear HD0n
  have BBn := Lib.hid (BB.out.trans (hbn.mono BB.out.size)); clear BB; have BB := BBn; clear BBn
  clear s0 s1 hb hbx hbn
  go_wp2_with fail
  refine (HNEWR _).mono ?_
  rintro e w6 ⟨A6, a6, B6, b6, rfl, s0, s1, hb, _⟩
  obtain ⟨x6, hx6⟩ : ∃ x, w6.alloc (.cells #[.int .u64 0, .slice A6 N a6, .slice B6 N b6] 26) = x := ⟨_, rfl⟩
  have hbx : Below w6.heap.size w6 x6 := by rw [← hx6]; exact al_below _ _
  have D6 : Hid (DAt x6 w6.heap.size 0 A6 N a6 B6 N b6 Z Z) := Lib.hid (by rw [← hx6]; exact DAt.made s0 s1 _)
  have hbn := hb.trans (hbx.mono hb.size)
  have D0n := Lib.hid (D0.out.below hbn); clear D0; have D0 := D0n; clear D0n
  have D4n := Lib.hid (D4.out.below hbn); clear D4; have D4 := D4n; clear D4n
  have HC0n := Lib.hid (AtB.later HC0 hbn); clear HC0; have HC0 := HC0n; clear HC0n
  have HD0n := Lib.hid (AtI.later HD0.out hbn); clear HD0; have HD0 := HD0n; clear HD0n
  have BBn := Lib.hid (BB.out.trans (hbn.mono BB.out.size)); clear BB; have BB := BBn; clear BBn
  clear s0 s1 hb hbx hbn
  obtain ⟨hz, c0, c1, c2, f0, f1, f2⟩ := D0.out.1.three
  have S0 := Lib.hid D0.out.2.1
  have S1 := Lib.hid D0.out.2.2
  go_wp2_with fail
  clear hz c0 c1 c2 f0 f1 f2
  refine (HRIGHT _ S0 S1).mono ?_
  rintro e w8 ⟨rfl, hbn⟩
  have D0n := Lib.hid (D0.out.below hbn); clear D0; have D0 := D0n; clear D0n
  have D4n := Lib.hid (D4.out.below hbn); clear D4; have D4 := D4n; clear D4n
  have D6n := Lib.hid (D6.out.below hbn); clear D6; have D6 := D6n; clear D6n
  have HC0n := Lib.hid (AtB.later HC0 hbn); clear HC0; have HC0 := HC0n; clear HC0n
  have HD0n := Lib.hid (AtI.later HD0.out hbn); clear HD0; have HD0 := HD0n; clear HD0n
  have BBn := Lib.hid (BB.out.trans (hbn.mono BB.out.size)); clear BB; have BB := BBn; clear BBn
  clear hbn S0 S1
  obtain ⟨hz, c0, c1, c2, f0, f1, f2⟩ := D0.out.1.three
  obtain ⟨hz4, d0, d1, d2, _, _, _⟩ := D4.out.1.three
  obtain ⟨hz6, e0, e1, e2, _, _, _⟩ := D6.out.1.three
  have S0 := Lib.hid D0.out.2.1
  have S1 := Lib.hid D0.out.2.2
  have N40 := Lib.hid D4.out.2.1
  have N41 := Lib.hid D4.out.2.2
  have N60 := Lib.hid D6.out.2.1
  have N61 := Lib.hid D6.out.2.2
  clear D4 D6
  go_wp2_with (first | (go_at_call 13; (with_reducible refine (sameD_at 0 A4 N a4 B4 N b4 A6 a6 B6 b6 Z Z _ N40 N41 N60 N61).mono ?_); rintro e w9 ⟨rfl, hbn⟩; have D0n := Lib.hid (D0.out.below hbn); clear D0; have D0 := D0n; clear D0n; have HC0n := Lib.hid (AtB.later HC0 hbn); clear HC0; have HC0 := HC0n; clear HC0n; have HD0n := Lib.hid (AtI.later HD0.out hbn); clear HD0; have HD0 := HD0n; clear HD0n; have BBn := Lib.hid (BB.out.trans (hbn.mono BB.out.size)); clear BB; have BB := BBn; clear BBn; clear hbn hz c0 c1 c2 f0 f1 f2 hz4 d0 d1 d2 hz6 e0 e1 e2 S0 S1 N40 N41 N60 N61; obtain ⟨hz, c0, c1, c2, f0, f1, f2⟩ := D0.out.1.three; have S0 := Lib.hid D0.out.2.1; have S1 := Lib.hid D0.out.2.2) | (go_at_call 14; (with_reducible refine (HRIGHT2 _ S0 S1).mono ?_); rintro e w10 ⟨rfl, hbn⟩; have D0n := Lib.hid (D0.out.below hbn); clear D0; have D0 := D0n; clear D0n; have HC0n := Lib.hid (AtB.later HC0 hbn); clear HC0; have HC0 := HC0n; clear HC0n; have HD0n := Lib.hid (AtI.later HD0.out hbn); clear HD0; have HD0 := HD0n; clear HD0n; have BBn := Lib.hid (BB.out.trans (hbn.mono BB.out.size)); clear BB; have BB := BBn; clear BBn; clear hbn hz c0 c1 c2 f0 f1 f2 S0 S1; obtain ⟨hz, c0, c1, c2, f0, f1, f2⟩ := D0.out.1.three; have S0 := Lib.hid D0.out.2.1; have S1 := Lib.hid D0.out.2.2))
  clear hz c0 c1 c2 f0 f1 f2
  refine (HAPP _ S0 S1 HC0).mono ?_
  rintro e w12 ⟨A12, a12, B12, b12, rfl, s0, s1, hb, _⟩
  obtain ⟨x12, hx12⟩ : ∃ x, w12.alloc (.cells #[.int .u64 (r : Int), .slice A12 n a12, .slice B12 n b12] 26) = x := ⟨_, rfl⟩
  have hbx : Below w12.heap.size w12 x12 := by rw [← hx12]; exact al_below _ _
  have D12 : Hid (DAt x12 w12.heap.size (r : Int) A12 n a12 B12 n b12 P0 P1) := Lib.hid (by rw [← hx12]; exact DAt.made s0 s1 _)
  have hbn := hb.trans (hbx.mono hb.size)
  have D0n := Lib.hid (D0.out.below hbn); clear D0; have D0 := D0n; clear D0n
  have HC0n := Lib.hid (AtB.later HC0 hbn); clear HC0; have HC0 := HC0n; clear HC0n
  have HD0n := Lib.hid (AtI.later HD0.out hbn); clear HD0; have HD0 := HD0n; clear HD0n
  have BBn := Lib.hid (BB.out.trans (hbn.mono BB.out.size)); clear BB; have BB := BBn; clear BBn
  clear s0 s1 hb hbx hbn S0 S1
  obtain ⟨hz, c0, c1, c2, f0, f1, f2⟩ := D0.out.1.three
  have S0 := Lib.hid D0.out.2.1
  have S1 := Lib.hid D0.out.2.2
  go_wp2_with fail
  clear hz c0 c1 c2 f0 f1 f2
  refine (HAPPR _ S0 S1 HC0).mono ?_
  rintro e w14 ⟨A14, a14, B14, b14, rfl, s0, s1, hb, _⟩
  obtain ⟨x14, hx14⟩ : ∃ x, w14.alloc (.cells #[.int .u64 (r : Int), .slice A14 n a14, .slice B14 n b14] 26) = x := ⟨_, rfl⟩
  have hbx : Below w14.heap.size w14 x14 := by rw [← hx14]; exact al_below _ _
  have D14 : Hid (DAt x14 w14.heap.size (r : Int) A14 n a14 B14 n b14 P0 P1) := Lib.hid (by rw [← hx14]; exact DAt.made s0 s1 _)
  have hbn := hb.trans (hbx.mono hb.size)
  have D0n := Lib.hid (D0.out.below hbn); clear D0; have D0 := D0n; clear D0n
  have D12n := Lib.hid (D12.out.below hbn); clear D12; have D12 := D12n; clear D12n
  have HC0n := Lib.hid (AtB.later HC0 hbn); clear HC0; have HC0 := HC0n; clear HC0n
  have HD0n := Lib.hid (AtI.later HD0.out hbn); clear HD0; have HD0 := HD0n; clear HD0n
  have BBn := Lib.hid (BB.out.trans (hbn.mono BB.out.size)); clear BB; have BB := BBn; clear BBn
  clear s0 s1 hb hbx hbn S0 S1
  obtain ⟨hz, c0, c1, c2, f0, f1, f2⟩ := D0.out.1.three
  have S0 := Lib.hid D0.out.2.1
  have S1 := Lib.hid D0.out.2.2
  go_wp2_with fail
  clear hz c0 c1 c2 f0 f1 f2
  refine (HSYN _ S0 S1).mono ?_
  rintro e w16 ⟨A16, a16, B16, b16, rfl, s0, s1, hb, _⟩
  obtain ⟨x16, hx16⟩ : ∃ x, w16.alloc (.cells #[.int .u64 (r : Int), .slice A16 n a16, .slice B16 n b16] 26) = x := ⟨_, rfl⟩
  have hbx : Below w16.heap.size w16 x16 := by rw [← hx16]; exact al_below _ _
  have D16 : Hid (DAt x16 w16.heap.size (r : Int) A16 n a16 B16 n b16 Q0 Q1) := Lib.hid (by rw [← hx16]; exact DAt.made s0 s1 _)
  have hbn := hb.trans (hbx.mono hb.size)
  have D0n := Lib.hid (D0.out.below hbn); clear D0; have D0 := D0n; clear D0n
  have D12n := Lib.hid (D12.out.below hbn); clear D12; have D12 := D12n; clear D12n
  have D14n := Lib.hid (D14.out.below hbn); clear D14; have D14 := D14n; clear D14n
  have HC0n := Lib.hid (AtB.later HC0 hbn); clear HC0; have HC0 := HC0n; clear HC0n
  have HD0n := Lib.hid (AtI.later HD0.out hbn); clear HD0; have HD0 := HD0n; clear HD0n
  have BBn := Lib.hid (BB.out.trans (hbn.mono BB.out.size)); clear BB; have BB := BBn; clear BBn
  clear s0 s1 hb hbx hbn S0 S1
  obtain ⟨hz, c0, c1, c2, f0, f1, f2⟩ := D0.out.1.three
  have S0 := Lib.hid D0.out.2.1
  have S1 := Lib.hid D0.out.2.2
  go_wp2_with fail
  clear hz c0 c1 c2 f0 f1 f2
  refine (HSYNR _ S0 S1).mono ?_
  rintro e w18 ⟨A18, a18, B18, b18, rfl, s0, s1, hb, _⟩
  obtain ⟨x18, hx18⟩ : ∃ x, w18.alloc (.cells #[.int .u64 (r : Int), .slice A18 n a18, .slice B18 n b18] 26) = x := ⟨_, rfl⟩
  have hbx : Below w18.heap.size w18 x18 := by rw [← hx18]; exact al_below _ _
  have D18 : Hid (DAt x18 w18.heap.size (r : Int) A18 n a18 B18 n b18 Q0 Q1) := Lib.hid (by rw [← hx18]; exact DAt.made s0 s1 _)
  have hbn := hb.trans (hbx.mono hb.size)
  have D0n := Lib.hid (D0.out.below hbn); clear D0; have D0 := D0n; clear D0n
  have D12n := Lib.hid (D12.out.below hbn); clear D12; have D12 := D12n; clear D12n
  have D14n := Lib.hid (D14.out.below hbn); clear D14; have D14 := D14n; clear D14n
  have D16n := Lib.hid (D16.out.below hbn); clear D16; have D16 := D16n; clear D16n
  have HC0n := Lib.hid (AtB.later HC0 hbn); clear HC0; have HC0 := HC0n; clear HC0n
  have HD0n := Lib.hid (AtI.later HD0.out hbn); clear HD0; have HD0 := HD0n; clear HD0n
  have BBn := Lib.hid (BB.out.trans (hbn.mono BB.out.size)); clear BB; have BB := BBn; clear BBn
  clear s0 s1 hb hbx hbn S0 S1
  obtain ⟨hz, c0, c1, c2, f0, f1, f2⟩ := D0.out.1.three
  have S0 := Lib.hid D0.out.2.1
  have S1 := Lib.hid D0.out.2.2
  go_wp2_with fail
  clear hz c0 c1 c2 f0 f1 f2
  refine (HREAD _ S0 S1).mono ?_
  rintro e w20 ⟨X20, k20, rfl, _, hat, hbn⟩
  have D0n := Lib.hid (D0.out.below hbn); clear D0; have D0 := D0n; clear D0n
  have D12n := Lib.hid (D12.out.below hbn); clear D12; have D12 := D12n; clear D12n
  have D14n := Lib.hid (D14.out.below hbn); clear D14; have D14 := D14n; clear D14n
  have D16n := Lib.hid (D16.out.below hbn); clear D16; have D16 := D16n; clear D16n
  have D18n := Lib.hid (D18.out.below hbn); clear D18; have D18 := D18n; clear D18n
  have HC0n := Lib.hid (AtB.later HC0 hbn); clear HC0; have HC0 := HC0n; clear HC0n
  have HD0n := Lib.hid (AtI.later HD0.out hbn); clear HD0; have HD0 := HD0n; clear HD0n
  have BBn := Lib.hid (BB.out.trans (hbn.mono BB.out.size)); clear BB; have BB := BBn; clear BBn
  have HX20 := Lib.hid hat
  clear hat hbn S0 S1
  obtain ⟨hz, c0, c1, c2, f0, f1, f2⟩ := D0.out.1.three
  have S0 := Lib.hid D0.out.2.1
  have S1 := Lib.hid D0.out.2.2
  go_wp2_with fail
  clear hz c0 c1 c2 f0 f1 f2
  refine (HREADR _ S0 S1).mono ?_
  rintro e w21 ⟨X21, k21, rfl, _, hat, hbn⟩
  have D0n := Lib.hid (D0.out.below hbn); clear D0; have D0 := D0n; clear D0n
  have D12n := Lib.hid (D12.out.below hbn); clear D12; have D12 := D12n; clear D12n
  have D14n := Lib.hid (D14.out.below hbn); clear D14; have D14 := D14n; clear D14n
  have D16n := Lib.hid (D16.out.below hbn); clear D16; have D16 := D16n; clear D16n
  have D18n := Lib.hid (D18.out.below hbn); clear D18; have D18 := D18n; clear D18n
  have HC0n := Lib.hid (AtB.later HC0 hbn); clear HC0; have HC0 := HC0n; clear HC0n
  have HX20n := Lib.hid (AtB.later HX20 hbn); clear HX20; have HX20 := HX20n; clear HX20n
  have HD0n := Lib.hid (AtI.later HD0.out hbn); clear HD0; have HD0 := HD0n; clear HD0n
  have BBn := Lib.hid (BB.out.trans (hbn.mono BB.out.size)); clear BB; have BB := BBn; clear BBn
  have HX21 := Lib.hid hat
  clear hat hbn S0 S1
  obtain ⟨hz, c0, c1, c2, f0, f1, f2⟩ := D0.out.1.three
  have S0 := Lib.hid D0.out.2.1
  have S1 := Lib.hid D0.out.2.2
  go_wp2_with fail
  clear hz c0 c1 c2 f0 f1 f2
  refine (HCLR _ S0 S1).mono ?_
  rintro e w22 ⟨A22, a22, B22, b22, rfl, s0, s1, hb, _⟩
  obtain ⟨x22, hx22⟩ : ∃ x, w22.alloc (.cells #[.int .u64 (r : Int), .slice A22 n a22, .slice B22 n b22] 26) = x := ⟨_, rfl⟩
  have hbx : Below w22.heap.size w22 x22 := by rw [← hx22]; exact al_below _ _
  have D22 : Hid (DAt x22 w22.heap.size (r : Int) A22 n a22 B22 n b22 U0 U1) := Lib.hid (by rw [← hx22]; exact DAt.made s0 s1 _)
  have hbn := hb.trans (hbx.mono hb.size)
  have D0n := Lib.hid (D0.out.below hbn); clear D0; have D0 := D0n; clear D0n
  have D12n := Lib.hid (D12.out.below hbn); clear D12; have D12 := D12n; clear D12n
  have D14n := Lib.hid (D14.out.below hbn); clear D14; have D14 := D14n; clear D14n
  have D16n := Lib.hid (D16.out.below hbn); clear D16; have D16 := D16n; clear D16n
  have D18n := Lib.hid (D18.out.below hbn); clear D18; have D18 := D18n; clear D18n
  have HC0n := Lib.hid (AtB.later HC0 hbn); clear HC0; have HC0 := HC0n; clear HC0n
  have HX20n := Lib.hid (AtB.later HX20 hbn); clear HX20; have HX20 := HX20n; clear HX20n
  have HX21n := Lib.hid (AtB.later HX21 hbn); clear HX21; have HX21 := HX21n; clear HX21n
  have HD0n := Lib.hid (AtI.later HD0.out hbn); clear HD0; have HD0 := HD0n; clear HD0n
  have BBn := Lib.hid (BB.out.trans (hbn.mono BB.out.size)); clear BB; have BB := BBn; clear BBn
  clear s0 s1 hb hbx hbn S0 S1
  obtain ⟨hz, c0, c1, c2, f0, f1, f2⟩ := D0.out.1.three
  have S0 := Lib.hid D0.out.2.1
  have S1 := Lib.hid D0.out.2.2
  go_wp2_with fail
  clear hz c0 c1 c2 f0 f1 f2
  refine (HCLRR _ S0 S1).mono ?_
  rintro e w24 ⟨A24, a24, B24, b24, rfl, s0, s1, hb, _⟩
  obtain ⟨x24, hx24⟩ : ∃ x, w24.alloc (.cells #[.int .u64 (r : Int), .slice A24 n a24, .slice B24 n b24] 26) = x := ⟨_, rfl⟩
  have hbx : Below w24.heap.size w24 x24 := by rw [← hx24]; exact al_below _ _
  have D24 : Hid (DAt x24 w24.heap.size (r : Int) A24 n a24 B24 n b24 U0 U1) := Lib.hid (by rw [← hx24]; exact DAt.made s0 s1 _)
  have hbn := hb.trans (hbx.mono hb.size)
  have D0n := Lib.hid (D0.out.below hbn); clear D0; have D0 := D0n; clear D0n
  have D12n := Lib.hid (D12.out.below hbn); clear D12; have D12 := D12n; clear D12n
  have D14n := Lib.hid (D14.out.below hbn); clear D14; have D14 := D14n; clear D14n
  have D16n := Lib.hid (D16.out.below hbn); clear D16; have D16 := D16n; clear D16n
  have D18n := Lib.hid (D18.out.below hbn); clear D18; have D18 := D18n; clear D18n
  have D22n := Lib.hid (D22.out.below hbn); clear D22; have D22 := D22n; clear D22n
  have HC0n := Lib.hid (AtB.later HC0 hbn); clear HC0; have HC0 := HC0n; clear HC0n
  have HX20n := Lib.hid (AtB.later HX20 hbn); clear HX20; have HX20 := HX20n; clear HX20n
  have HX21n := Lib.hid (AtB.later HX21 hbn); clear HX21; have HX21 := HX21n; clear HX21n
  have HD0n := Lib.hid (AtI.later HD0.out hbn); clear HD0; have HD0 := HD0n; clear HD0n
  have BBn := Lib.hid (BB.out.trans (hbn.mono BB.out.size)); clear BB; have BB := BBn; clear BBn
  clear s0 s1 hb hbx hbn S0 S1
  have hT1 : ∀ w', Below x24.heap.size x24 w' → (convert 27 9 (.slice X20 xs.length k20)).run Try.prog w' = .ok (.string (strN xs)) w' := fun w' hb => run_str (AtB.later HX20 hb) k20
  have hT2 : ∀ w', Below x24.heap.size x24 w' → (convert 27 9 (.slice X21 xs.length k21)).run Try.prog w' = .ok (.string (strN xs)) w' := fun w' hb => run_str (AtB.later HX21 hb) k21
  generalize strN xs = S at *
  have V := Lib.hid D0.out.1
  have hV0 : ∀ w', Below x24.heap.size x24 w' → w'.cell? ⟨w.heap.size + 1, 0, none⟩ = some (.int .u64 (r : Int)) := fun w' hb => (V.out.below hb).2.1 0 _ rfl
  have hV1 : ∀ w', Below x24.heap.size x24 w' → w'.cell? ⟨w.heap.size + 1, 1, none⟩ = some (.slice A n a) := fun w' hb => (V.out.below hb).2.1 1 _ rfl
  have hV2 : ∀ w', Below x24.heap.size x24 w' → w'.cell? ⟨w.heap.size + 1, 2, none⟩ = some (.slice B n b) := fun w' hb => (V.out.below hb).2.1 2 _ rfl
  have hB0 : Below x24.heap.size x24 x24 := Below.refl _ _
  go_wp2_with fail
  try rw [hx24]
  clear hx24
  first | (go_region_held3 (fun w' => Below x24.heap.size x24 w') (first | assumption | (exact Below.drew (by assumption)) | (exact Below.drew (Below.refl _ _)))
    (first
      | (go_at_call 23; (with_reducible refine (HROW _).mono ?_); rintro e w25 ⟨rfl, hbw25⟩; have hBw25 : Below x24.heap.size x24 w25 := below_step hbw25 (by first | assumption | (exact Below.drew (Below.refl _ _)) | (exact Below.drew (by assumption))); skip; clear hbw25))) | fail
  all_goals
    have hbn : Below x24.heap.size x24 w25 := by assumption
    have D0n := Lib.hid (D0.out.below hbn); clear D0; have D0 := D0n; clear D0n
    have D12n := Lib.hid (D12.out.below hbn); clear D12; have D12 := D12n; clear D12n
    have D14n := Lib.hid (D14.out.below hbn); clear D14; have D14 := D14n; clear D14n
    have D16n := Lib.hid (D16.out.below hbn); clear D16; have D16 := D16n; clear D16n
    have D18n := Lib.hid (D18.out.below hbn); clear D18; have D18 := D18n; clear D18n
    have D22n := Lib.hid (D22.out.below hbn); clear D22; have D22 := D22n; clear D22n
    have D24n := Lib.hid (D24.out.below hbn); clear D24; have D24 := D24n; clear D24n
    have HD0n := Lib.hid (AtI.later HD0.out hbn); clear HD0; have HD0 := HD0n; clear HD0n
    have BBn := Lib.hid (BB.out.trans (hbn.mono BB.out.size)); clear BB; have BB := BBn; clear BBn
    clear hV0 hV1 hV2 V hT1 hT2 hB0 hBw25 hbn HX20 HX21 HC0
    have VD0 := Lib.hid D0.out.1
    have RD00 := Lib.hid D0.out.2.1
    have RD01 := Lib.hid D0.out.2.2
    have VD12 := Lib.hid D12.out.1
    have RD120 := Lib.hid D12.out.2.1
    have RD121 := Lib.hid D12.out.2.2
    have VD14 := Lib.hid D14.out.1
    have RD140 := Lib.hid D14.out.2.1
    have RD141 := Lib.hid D14.out.2.2
    have VD16 := Lib.hid D16.out.1
    have RD160 := Lib.hid D16.out.2.1
    have RD161 := Lib.hid D16.out.2.2
    have VD18 := Lib.hid D18.out.1
    have RD180 := Lib.hid D18.out.2.1
    have RD181 := Lib.hid D18.out.2.2
    have VD22 := Lib.hid D22.out.1
    have RD220 := Lib.hid D22.out.2.1
    have RD221 := Lib.hid D22.out.2.2
    have VD24 := Lib.hid D24.out.1
    have RD240 := Lib.hid D24.out.2.1
    have RD241 := Lib.hid D24.out.2.2
    have hD00 : ∀ w', Below w25.heap.size w25 w' → w'.cell? ⟨w.heap.size + 1, 0, none⟩ = some (.int .u64 (r : Int)) := fun w' hb => (VD0.out.below hb).2.1 0 _ rfl
    have hD01 : ∀ w', Below w25.heap.size w25 w' → w'.cell? ⟨w.heap.size + 1, 1, none⟩ = some (.slice A n a) := fun w' hb => (VD0.out.below hb).2.1 1 _ rfl
    have hD02 : ∀ w', Below w25.heap.size w25 w' → w'.cell? ⟨w.heap.size + 1, 2, none⟩ = some (.slice B n b) := fun w' hb => (VD0.out.below hb).2.1 2 _ rfl
    have hD120 : ∀ w', Below w25.heap.size w25 w' → w'.cell? ⟨w12.heap.size, 0, none⟩ = some (.int .u64 (r : Int)) := fun w' hb => (VD12.out.below hb).2.1 0 _ rfl
    have hD121 : ∀ w', Below w25.heap.size w25 w' → w'.cell? ⟨w12.heap.size, 1, none⟩ = some (.slice A12 n a12) := fun w' hb => (VD12.out.below hb).2.1 1 _ rfl
    have hD122 : ∀ w', Below w25.heap.size w25 w' → w'.cell? ⟨w12.heap.size, 2, none⟩ = some (.slice B12 n b12) := fun w' hb => (VD12.out.below hb).2.1 2 _ rfl
    have hD140 : ∀ w', Below w25.heap.size w25 w' → w'.cell? ⟨w14.heap.size, 0, none⟩ = some (.int .u64 (r : Int)) := fun w' hb => (VD14.out.below hb).2.1 0 _ rfl
    have hD141 : ∀ w', Below w25.heap.size w25 w' → w'.cell? ⟨w14.heap.size, 1, none⟩ = some (.slice A14 n a14) := fun w' hb => (VD14.out.below hb).2.1 1 _ rfl
    have hD142 : ∀ w', Below w25.heap.size w25 w' → w'.cell? ⟨w14.heap.size, 2, none⟩ = some (.slice B14 n b14) := fun w' hb => (VD14.out.below hb).2.1 2 _ rfl
    have hD160 : ∀ w', Below w25.heap.size w25 w' → w'.cell? ⟨w16.heap.size, 0, none⟩ = some (.int .u64 (r : Int)) := fun w' hb => (VD16.out.below hb).2.1 0 _ rfl
    have hD161 : ∀ w', Below w25.heap.size w25 w' → w'.cell? ⟨w16.heap.size, 1, none⟩ = some (.slice A16 n a16) := fun w' hb => (VD16.out.below hb).2.1 1 _ rfl
    have hD162 : ∀ w', Below w25.heap.size w25 w' → w'.cell? ⟨w16.heap.size, 2, none⟩ = some (.slice B16 n b16) := fun w' hb => (VD16.out.below hb).2.1 2 _ rfl
    have hD180 : ∀ w', Below w25.heap.size w25 w' → w'.cell? ⟨w18.heap.size, 0, none⟩ = some (.int .u64 (r : Int)) := fun w' hb => (VD18.out.below hb).2.1 0 _ rfl
    have hD181 : ∀ w', Below w25.heap.size w25 w' → w'.cell? ⟨w18.heap.size, 1, none⟩ = some (.slice A18 n a18) := fun w' hb => (VD18.out.below hb).2.1 1 _ rfl
    have hD182 : ∀ w', Below w25.heap.size w25 w' → w'.cell? ⟨w18.heap.size, 2, none⟩ = some (.slice B18 n b18) := fun w' hb => (VD18.out.below hb).2.1 2 _ rfl
    have hD220 : ∀ w', Below w25.heap.size w25 w' → w'.cell? ⟨w22.heap.size, 0, none⟩ = some (.int .u64 (r : Int)) := fun w' hb => (VD22.out.below hb).2.1 0 _ rfl
    have hD221 : ∀ w', Below w25.heap.size w25 w' → w'.cell? ⟨w22.heap.size, 1, none⟩ = some (.slice A22 n a22) := fun w' hb => (VD22.out.below hb).2.1 1 _ rfl
    have hD222 : ∀ w', Below w25.heap.size w25 w' → w'.cell? ⟨w22.heap.size, 2, none⟩ = some (.slice B22 n b22) := fun w' hb => (VD22.out.below hb).2.1 2 _ rfl
    have hD240 : ∀ w', Below w25.heap.size w25 w' → w'.cell? ⟨w24.heap.size, 0, none⟩ = some (.int .u64 (r : Int)) := fun w' hb => (VD24.out.below hb).2.1 0 _ rfl
    have hD241 : ∀ w', Below w25.heap.size w25 w' → w'.cell? ⟨w24.heap.size, 1, none⟩ = some (.slice A24 n a24) := fun w' hb => (VD24.out.below hb).2.1 1 _ rfl
    have hD242 : ∀ w', Below w25.heap.size w25 w' → w'.cell? ⟨w24.heap.size, 2, none⟩ = some (.slice B24 n b24) := fun w' hb => (VD24.out.below hb).2.1 2 _ rfl
    have hB0 : Below w25.heap.size w25 w25 := Below.refl _ _
    go_wp2_with fail
    first | (go_region_held3 (fun w' => Below w25.heap.size w25 w') (first | assumption | (exact Below.drew (by assumption)) | (exact Below.drew (Below.refl _ _)))
      (first
        | (go_at_call 13; (with_reducible refine (sameD_at (r : Int) A12 n a12 B12 n b12 A14 a14 B14 b14 P0 P1 _ (Lib.hid (StmsAt.later RD120.out (by first | assumption | (exact Below.drew (Below.refl _ _)) | (exact Below.drew (by assumption))))) (Lib.hid (StmsAt.later RD121.out (by first | assumption | (exact Below.drew (Below.refl _ _)) | (exact Below.drew (by assumption))))) (Lib.hid (StmsAt.later RD140.out (by first | assumption | (exact Below.drew (Below.refl _ _)) | (exact Below.drew (by assumption))))) (Lib.hid (StmsAt.later RD141.out (by first | assumption | (exact Below.drew (Below.refl _ _)) | (exact Below.drew (by assumption)))))).mono ?_); rintro e w26 ⟨rfl, hbw26⟩; have hBw26 : Below w25.heap.size w25 w26 := below_step hbw26 (by first | assumption | (exact Below.drew (Below.refl _ _)) | (exact Below.drew (by assumption))); skip; clear hbw26)
        | (go_at_call 13; (with_reducible refine (sameD_at (r : Int) A16 n a16 B16 n b16 A18 a18 B18 b18 Q0 Q1 _ (Lib.hid (StmsAt.later RD160.out (by first | assumption | (exact Below.drew (Below.refl _ _)) | (exact Below.drew (by assumption))))) (Lib.hid (StmsAt.later RD161.out (by first | assumption | (exact Below.drew (Below.refl _ _)) | (exact Below.drew (by assumption))))) (Lib.hid (StmsAt.later RD180.out (by first | assumption | (exact Below.drew (Below.refl _ _)) | (exact Below.drew (by assumption))))) (Lib.hid (StmsAt.later RD181.out (by first | assumption | (exact Below.drew (Below.refl _ _)) | (exact Below.drew (by assumption)))))).mono ?_); rintro e w27 ⟨rfl, hbw27⟩; have hBw27 : Below w25.heap.size w25 w27 := below_step hbw27 (by first | assumption | (exact Below.drew (Below.refl _ _)) | (exact Below.drew (by assumption))); skip; clear hbw27)
        | (go_at_call 13; (with_reducible refine (sameD_at (r : Int) A22 n a22 B22 n b22 A24 a24 B24 b24 U0 U1 _ (Lib.hid (StmsAt.later RD220.out (by first | assumption | (exact Below.drew (Below.refl _ _)) | (exact Below.drew (by assumption))))) (Lib.hid (StmsAt.later RD221.out (by first | assumption | (exact Below.drew (Below.refl _ _)) | (exact Below.drew (by assumption))))) (Lib.hid (StmsAt.later RD240.out (by first | assumption | (exact Below.drew (Below.refl _ _)) | (exact Below.drew (by assumption))))) (Lib.hid (StmsAt.later RD241.out (by first | assumption | (exact Below.drew (Below.refl _ _)) | (exact Below.drew (by assumption)))))).mono ?_); rintro e w28 ⟨rfl, hbw28⟩; have hBw28 : Below w25.heap.size w25 w28 := below_step hbw28 (by first | assumption | (exact Below.drew (Below.refl _ _)) | (exact Below.drew (by assumption))); skip; clear hbw28)
        | (go_at_call 24; (with_reducible refine (HCR _ (Lib.hid (StmsAt.later RD00.out (by first | assumption | (exact Below.drew (Below.refl _ _)) | (exact Below.drew (by assumption))))) (Lib.hid (StmsAt.later RD01.out (by first | assumption | (exact Below.drew (Below.refl _ _)) | (exact Below.drew (by assumption))))) (Lib.hid (AtI.later HD0.out (by first | assumption | (exact Below.drew (Below.refl _ _)) | (exact Below.drew (by assumption)))))).mono ?_); rintro e w30 ⟨A30, a30, B30, b30, rfl, s0, s1, hbw30, _⟩; have hBw30 : Below w25.heap.size w25 w30 := below_step hbw30 (by first | assumption | (exact Below.drew (Below.refl _ _)) | (exact Below.drew (by assumption))); (try (have S320n := StmsAt.hidD S320 rfl hbw30; clear S320; have S320 := S320n; clear S320n)); (try (have S321n := StmsAt.hidD S321 rfl hbw30; clear S321; have S321 := S321n; clear S321n)); have S300 := Lib.hid s0; have S301 := Lib.hid s1; clear s0 s1; clear hbw30)
        | (go_at_call 25; (with_reducible refine (HCRR _ (Lib.hid (StmsAt.later RD00.out (by first | assumption | (exact Below.drew (Below.refl _ _)) | (exact Below.drew (by assumption))))) (Lib.hid (StmsAt.later RD01.out (by first | assumption | (exact Below.drew (Below.refl _ _)) | (exact Below.drew (by assumption))))) (Lib.hid (AtI.later HD0.out (by first | assumption | (exact Below.drew (Below.refl _ _)) | (exact Below.drew (by assumption)))))).mono ?_); rintro e w32 ⟨A32, a32, B32, b32, rfl, s0, s1, hbw32, _⟩; have hBw32 : Below w25.heap.size w25 w32 := below_step hbw32 (by first | assumption | (exact Below.drew (Below.refl _ _)) | (exact Below.drew (by assumption))); (try (have S300n := StmsAt.hidD S300 rfl hbw32; clear S300; have S300 := S300n; clear S300n)); (try (have S301n := StmsAt.hidD S301 rfl hbw32; clear S301; have S301 := S301n; clear S301n)); have S320 := Lib.hid s0; have S321 := Lib.hid s1; clear s0 s1; clear hbw32)
        | (go_at_call 13; (with_reducible refine (sameD_at (r : Int) A30 n a30 B30 n b30 A32 a32 B32 b32 V0 V1 _ S300 S301 S320 S321).mono ?_); rintro e w34 ⟨rfl, hbw34⟩; have hBw34 : Below w25.heap.size w25 w34 := below_step hbw34 (by first | assumption | (exact Below.drew (Below.refl _ _)) | (exact Below.drew (by assumption))); skip; clear hbw34))) | fail
    all_goals
      go_wp2_with fail
      go_ret
      exact ⟨rfl, BB.out.trans (Below.mono (by assumption) BB.out.size)⟩

set_option maxRecDepth 100000 in
theorem lifted (os : Os) (started : os.Started) (H : Type) (enc : TypeId × Value → H) :
    ReturnsInHanded {} Try.checked os 3 .any (Rows.diskTellsSpec.pre6 enc Try.prog Try.f3 Rows.diskTellsRow.domain false) (Rows.diskTellsSpec.post enc Try.prog Try.f3 false true false false) := by
  refine law_lifted (C := Try.checked) own started (by kernel_rfl) Try.func3
    (ChangeSpec.witness6 (enc := enc) (C := Try.checked) false ⟨#[], #[.agg #[.int .u64 0, .slice none 0 0, .slice none 0 0, .int .i64 0, .int .i64 0, .slice none 0 0, .slice none 0 0]], []⟩ 8 (by kernel_rfl) (by kernel_rfl) (by kernel_rfl) (by kernel_rfl))
    (by kernel_rfl) (by kernel_rfl) Try.underlying4 rfl (by kernel_rfl) ?_
  intro W base args ds before hval hA hwt hlt
  have hA' : DataW.TrodAll enc Try.prog W 0 (fun _ => true) true Try.f3.params.toList args.toList ds before := hA
  have hval' : ∀ (j : Nat) t v, Try.f3.params[j]? = some t → args[j]? = some v → Value.okWide Try.prog W .any base t v := hval
  have hwt' : (DataW.weightsEach Try.prog Try.f3.params.toList ds).all (· ≤ reachBytes) = true := hwt
  rw [Try.params3] at hA' hval' hwt'
  obtain ⟨v0, vs0, d0, ds0, p0, q0, hargs, rfl, rfl, h0, r0⟩ := trodAll_cons hA'
  obtain ⟨rfl, rfl, rfl⟩ := trodAll_nil r0
  obtain rfl : args = #[v0] := by cases args; simp_all
  obtain ⟨r, A, n, a, B, m, b, l0, l1, row, i, C, j, jc, ys, D, dn, dc, f, rfl, hr, hna, hmb, hl0, hl1, hrow, hi, hjc, hj, hC, hdc, hD⟩ := open_tells (hval' 0 30 v0 rfl rfl) h0 (sized_of hwt' (j := 0) (t := 30) rfl rfl) (fun x hx => hlt x (by simp [hx]))
  refine ⟨rfl, ?_⟩
  by_cases hf : fewD l0 l1 = true
  · by_cases hjl : 500 < j
    · exact walkLongA r A n a B m b l0 l1 row i C j jc D dn dc W (Lib.hid hl0) (Lib.hid hl1) hf hjl
    by_cases hdl : 40 < dn
    · exact walkLongB r A n a B m b l0 l1 row i C j jc D dn dc W (Lib.hid hl0) (Lib.hid hl1) hf (by omega) hdl
    by_cases hrt : rightD l0 l1 = true
    · obtain ⟨e1, g0, g1, h1, _⟩ := right_len hrt
      obtain ⟨h8, _, hsum⟩ := fewD_iff hf
      obtain rfl : n = m := by have := hl0.1; have := hl1.1; omega
      have hnn : l0.length = n := hl0.1
      exact walk r A n a B b l0 l1 row i C j jc ys D dn dc f W (Lib.hid hl0) (Lib.hid hl1) (Lib.hid hC) (Lib.hid hD) hf (by omega) (by omega) hr hdc hrt g0 g1 (by omega) (by omega) (fun x hx => by have := sumN_mem hx; omega) (fun x hx => by have := sumN_mem hx; omega)
    · exact walkWrong r A n a B m b l0 l1 row i C j jc ys D dn dc f W (Lib.hid hl0) (Lib.hid hl1) (Lib.hid hC) (Lib.hid hD) hf (by omega) (by omega) hr (by simpa using hrt)
  · exact walkFew r A n a B m b l0 l1 row i C j jc D dn dc W (Lib.hid hl0) (Lib.hid hl1) (by simpa using hf)

theorem over : Rows.diskTellsRow.holds Try.pinned (OpenSpec.ofChange Rows.diskTellsSpec) :=
  OpenClaim.holds_of_wide 3 Try.f3 rfl rfl rfl rfl rfl rfl rfl ⟨rfl, rfl, rfl, rfl, rfl⟩ rfl rfl rfl rfl rfl (by kernel_rfl) Try.func3 (by kernel_rfl)
    (of_decide_eq_true (by kernel_rfl)) (by unfold Func.isWrapper; first | (rw [if_pos (by decide +kernel)]; kernel_rfl) | (rw [if_neg (by decide +kernel)]; exact ⟨rfl, rfl⟩))
    (fun os started H enc _ => lifted os started H enc)

/-- The statement. -/
theorem proved : Rows.DiskTellsSaid :=
  over
#print axioms proved
end Go.Proofs.Ytfggnmmiifjilaa.diskTells
