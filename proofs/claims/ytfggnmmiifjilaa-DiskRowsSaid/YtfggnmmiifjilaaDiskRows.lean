/-
  DiskRows: a row that is cleared has as many streams, all empty, and the other one stays; what is appended to it then is all that it has; for every disk that is right, of 8 streams a row, 4000 bytes. No condition beyond the statement's own.
-/
import Derived.Test.YtfggnmmiifjilaaDskShown
import Derived.Test.YtfggnmmiifjilaaDskOpen
import Derived.Test.YtfggnmmiifjilaaLaw
import Derived.Deep.RegionHeld3
namespace Go.Proofs.Ytfggnmmiifjilaa.diskRows
open Go.ChangeShapes Go.WideShapes Go.ChangeAt Go.RowKit
set_option linter.unusedVariables false
theorem own : ownKnob Try.prog.godebug = none := by kernel_rfl

theorem zerosS_get (n k : Nat) (hk : k < n) : (zerosS n)[k]? = some Stm.zero := by unfold zerosS; rw [List.getElem?_replicate, if_pos hk]
theorem rowsAppend0 (r : Int) (A : Option Addr) (n a : Nat) (B : Option Addr) (b : Nat) (l0 l1 : List Stm) (k : Nat) (hk : k < n) (hn : n ≤ 1000000) (C : Option Addr) (c j : Nat) (ys : List Nat) (hj : j ≤ 140737488355328) (w : World) (h0 : Hid (StmsAt w A n (zerosS n))) (h1 : Hid (StmsAt w B n l1)) (hC : Hid (AtB w C j ys)) :
    Calls Try.prog 15 #[.agg #[.int .u64 r, .slice A n a, .slice B n b], .int .i64 0, .int .i64 (k : Int), .slice C j c] w (DskPostC w r A B n n ((zerosS n).set k ⟨ys, 0⟩) l1 0) :=
  dskAppend0_at r A n a B n b (zerosS n) l1 k hk hn Stm.zero (zerosS_get n k hk) C c j ys (by simpa [Stm.zero] using hj) w h0 h1 hC
theorem rowsRead0 (r : Int) (A : Option Addr) (n a : Nat) (B : Option Addr) (b : Nat) (l0 l1 : List Stm) (k : Nat) (hk : k < n) (ys : List Nat) (w : World) (h0 : Hid (StmsAt w A n ((zerosS n).set k ⟨ys, 0⟩))) (h1 : Hid (StmsAt w B n l1)) :
    Calls Try.prog 19 #[.agg #[.int .u64 r, .slice A n a, .slice B n b], .int .i64 0, .int .i64 (k : Int)] w (ReadPost w ys 0) :=
  dskRead0_at r A n a B n b ((zerosS n).set k ⟨ys, 0⟩) l1 k hk ⟨ys, 0⟩ (by rw [List.getElem?_set_self (by simpa [zerosS] using hk)]) w h0 h1
theorem rowsAppend1 (r : Int) (A : Option Addr) (n a : Nat) (B : Option Addr) (b : Nat) (l0 l1 : List Stm) (k : Nat) (hk : k < n) (hn : n ≤ 1000000) (C : Option Addr) (c j : Nat) (ys : List Nat) (hj : j ≤ 140737488355328) (w : World) (h0 : Hid (StmsAt w A n l0)) (h1 : Hid (StmsAt w B n (zerosS n))) (hC : Hid (AtB w C j ys)) :
    Calls Try.prog 15 #[.agg #[.int .u64 r, .slice A n a, .slice B n b], .int .i64 1, .int .i64 (k : Int), .slice C j c] w (DskPostC w r A B n n l0 ((zerosS n).set k ⟨ys, 0⟩) 0) :=
  dskAppend1_at r A n a B n b l0 (zerosS n) k hk hn Stm.zero (zerosS_get n k hk) C c j ys (by simpa [Stm.zero] using hj) w h0 h1 hC
theorem rowsRead1 (r : Int) (A : Option Addr) (n a : Nat) (B : Option Addr) (b : Nat) (l0 l1 : List Stm) (k : Nat) (hk : k < n) (ys : List Nat) (w : World) (h0 : Hid (StmsAt w A n l0)) (h1 : Hid (StmsAt w B n ((zerosS n).set k ⟨ys, 0⟩))) :
    Calls Try.prog 19 #[.agg #[.int .u64 r, .slice A n a, .slice B n b], .int .i64 1, .int .i64 (k : Int)] w (ReadPost w ys 0) :=
  dskRead1_at r A n a B n b l0 ((zerosS n).set k ⟨ys, 0⟩) k hk ⟨ys, 0⟩ (by rw [List.getElem?_set_self (by simpa [zerosS] using hk)]) w h0 h1
theorem right_len {l0 l1 : List Stm} (h : rightD l0 l1 = true) : l0.length = l1.length ∧ allB l0 = true ∧ allB l1 = true ∧ 1 ≤ l0.length ∧ l0.length ≤ 64 := by
  unfold rightD countB at h
  simp only [Bool.and_eq_true, decide_eq_true_eq] at h
  exact ⟨h.1.1, h.1.2.1, h.1.2.2, by omega, by omega⟩

set_option maxRecDepth 100000 in
set_option maxHeartbeats 8000000 in
theorem walkFew (r : Nat) (A : Option Addr) (n a : Nat) (B : Option Addr) (m b : Nat) (l0 l1 : List Stm) (row i : Nat) (C : Option Addr) (j jc : Nat) (w : World) (h0 : Hid (StmsAt w A n l0)) (h1 : Hid (StmsAt w B m l1)) (hf : fewD l0 l1 = false) :
    Calls Try.prog 6 #[.agg #[.int .u64 (r : Int), .slice A n a, .slice B m b, .int .u8 (row : Int), .int .u8 (i : Int), .slice C j jc]] w fun e w' => e = .returned (.bool true) ∧ Below w.heap.size w w' := by
  have HFEW := fun w h h' => few_at (r : Int) A n a B m b l0 l1 w h h'
  rw [hf] at HFEW
  go_enter Try.func6, Try.ntmps6
  go_wp2_with fail
  refine (shown_below _).mono ?_
  rintro e w1 ⟨rfl, hb⟩
  have BB := Lib.hid ((below_pair w _ _).trans (hb.mono (below_pair w _ _).size))
  have D1 : Hid (DAt w1 (w.heap.size + 1) (r : Int) A n a B m b l0 l1) := Lib.hid (DAt.below ⟨VarAt.three1 w (.int .u64 (r : Int)) (.slice A n a) (.slice B m b) (.cells #[.int .u64 (r : Int), .slice A n a, .slice B m b, .int .u8 (row : Int), .int .u8 (i : Int), .slice C j jc] 62) 26, h0.out.later (below_pair w _ _), h1.out.later (below_pair w _ _)⟩ hb)
  clear hb
  obtain ⟨hz1, c0, c1, c2, f0, f1, f2⟩ := D1.out.1.three
  have S10 := Lib.hid D1.out.2.1
  have S11 := Lib.hid D1.out.2.2
  go_wp2_with (go_at_call 9; (with_reducible refine (HFEW _ S10 S11).mono ?_); rintro e w2 ⟨rfl, hbn⟩; have D2 := Lib.hid (D1.out.below hbn); have BB2 := Lib.hid (BB.out.trans (hbn.mono BB.out.size)); clear hbn hz1 c0 c1 c2 f0 f1 f2 D1 BB; obtain ⟨hz1, c0, c1, c2, f0, f1, f2⟩ := D2.out.1.three; have S20 := Lib.hid D2.out.2.1; have S21 := Lib.hid D2.out.2.2)
  go_ret
  exact ⟨rfl, BB2.out⟩

set_option maxRecDepth 100000 in
set_option maxHeartbeats 8000000 in
theorem walkWrong (r : Nat) (A : Option Addr) (n a : Nat) (B : Option Addr) (m b : Nat) (l0 l1 : List Stm) (row i : Nat) (C : Option Addr) (j jc : Nat) (w : World) (h0 : Hid (StmsAt w A n l0)) (h1 : Hid (StmsAt w B m l1)) (hf : fewD l0 l1 = true) (hr : rightD l0 l1 = false) :
    Calls Try.prog 6 #[.agg #[.int .u64 (r : Int), .slice A n a, .slice B m b, .int .u8 (row : Int), .int .u8 (i : Int), .slice C j jc]] w fun e w' => e = .returned (.bool true) ∧ Below w.heap.size w w' := by
  have HFEW := fun w h h' => few_at (r : Int) A n a B m b l0 l1 w h h'
  rw [hf] at HFEW
  have HRIGHT := fun w h h' => refRightD_at (r : Int) A n a B m b l0 l1 w h h'
  rw [hr] at HRIGHT
  go_enter Try.func6, Try.ntmps6
  go_wp2_with fail
  refine (shown_below _).mono ?_
  rintro e w1 ⟨rfl, hb⟩
  have BB := Lib.hid ((below_pair w _ _).trans (hb.mono (below_pair w _ _).size))
  have D1 : Hid (DAt w1 (w.heap.size + 1) (r : Int) A n a B m b l0 l1) := Lib.hid (DAt.below ⟨VarAt.three1 w (.int .u64 (r : Int)) (.slice A n a) (.slice B m b) (.cells #[.int .u64 (r : Int), .slice A n a, .slice B m b, .int .u8 (row : Int), .int .u8 (i : Int), .slice C j jc] 62) 26, h0.out.later (below_pair w _ _), h1.out.later (below_pair w _ _)⟩ hb)
  clear hb
  obtain ⟨hz1, c0, c1, c2, f0, f1, f2⟩ := D1.out.1.three
  have S10 := Lib.hid D1.out.2.1
  have S11 := Lib.hid D1.out.2.2
  go_wp2_with (first | (go_at_call 9; (with_reducible refine (HFEW _ S10 S11).mono ?_); rintro e w2 ⟨rfl, hbn⟩; have D2 := Lib.hid (D1.out.below hbn); have BB2 := Lib.hid (BB.out.trans (hbn.mono BB.out.size)); clear hbn hz1 c0 c1 c2 f0 f1 f2 D1 BB; obtain ⟨hz1, c0, c1, c2, f0, f1, f2⟩ := D2.out.1.three; have S20 := Lib.hid D2.out.2.1; have S21 := Lib.hid D2.out.2.2) | (go_at_call 12; (with_reducible refine (HRIGHT _ S20 S21).mono ?_); rintro e w3 ⟨rfl, hbn⟩; have D3 := Lib.hid (D2.out.below hbn); have BB3 := Lib.hid (BB2.out.trans (hbn.mono BB2.out.size)); clear hbn hz1 c0 c1 c2 f0 f1 f2 D2 BB2 S20 S21; obtain ⟨hz1, c0, c1, c2, f0, f1, f2⟩ := D3.out.1.three))
  go_ret
  exact ⟨rfl, BB3.out⟩

set_option maxRecDepth 100000 in
set_option maxHeartbeats 8000000 in
theorem walkLong (r : Nat) (A : Option Addr) (n a : Nat) (B : Option Addr) (m b : Nat) (l0 l1 : List Stm) (row i : Nat) (C : Option Addr) (j jc : Nat) (w : World) (h0 : Hid (StmsAt w A n l0)) (h1 : Hid (StmsAt w B m l1)) (hf : fewD l0 l1 = true) (hr : rightD l0 l1 = true) (hj : 300 < j) :
    Calls Try.prog 6 #[.agg #[.int .u64 (r : Int), .slice A n a, .slice B m b, .int .u8 (row : Int), .int .u8 (i : Int), .slice C j jc]] w fun e w' => e = .returned (.bool true) ∧ Below w.heap.size w w' := by
  have HFEW := fun w h h' => few_at (r : Int) A n a B m b l0 l1 w h h'
  rw [hf] at HFEW
  have HRIGHT := fun w h h' => refRightD_at (r : Int) A n a B m b l0 l1 w h h'
  rw [hr] at HRIGHT
  have kd : decide ((300 : Int) < (j : Int)) = true := by rw [decide_eq_true_iff]; omega
  go_enter Try.func6, Try.ntmps6
  go_wp2_with fail
  refine (shown_below _).mono ?_
  rintro e w1 ⟨rfl, hb⟩
  have BB := Lib.hid ((below_pair w _ _).trans (hb.mono (below_pair w _ _).size))
  have D1 : Hid (DAt w1 (w.heap.size + 1) (r : Int) A n a B m b l0 l1) := Lib.hid (DAt.below ⟨VarAt.three1 w (.int .u64 (r : Int)) (.slice A n a) (.slice B m b) (.cells #[.int .u64 (r : Int), .slice A n a, .slice B m b, .int .u8 (row : Int), .int .u8 (i : Int), .slice C j jc] 62) 26, h0.out.later (below_pair w _ _), h1.out.later (below_pair w _ _)⟩ hb)
  clear hb
  obtain ⟨hz1, c0, c1, c2, f0, f1, f2⟩ := D1.out.1.three
  have S10 := Lib.hid D1.out.2.1
  have S11 := Lib.hid D1.out.2.2
  go_wp2_with (first | (go_at_call 9; (with_reducible refine (HFEW _ S10 S11).mono ?_); rintro e w2 ⟨rfl, hbn⟩; have D2 := Lib.hid (D1.out.below hbn); have BB2 := Lib.hid (BB.out.trans (hbn.mono BB.out.size)); clear hbn hz1 c0 c1 c2 f0 f1 f2 D1 BB; obtain ⟨hz1, c0, c1, c2, f0, f1, f2⟩ := D2.out.1.three; have S20 := Lib.hid D2.out.2.1; have S21 := Lib.hid D2.out.2.2) | (go_at_call 12; (with_reducible refine (HRIGHT _ S20 S21).mono ?_); rintro e w3 ⟨rfl, hbn⟩; have D3 := Lib.hid (D2.out.below hbn); have BB3 := Lib.hid (BB2.out.trans (hbn.mono BB2.out.size)); clear hbn hz1 c0 c1 c2 f0 f1 f2 D2 BB2 S20 S21; obtain ⟨hz1, c0, c1, c2, f0, f1, f2⟩ := D3.out.1.three))
  go_ret
  exact ⟨rfl, BB3.out⟩

set_option maxRecDepth 100000 in
set_option maxHeartbeats 8000000 in
theorem walk0 (r : Nat) (A : Option Addr) (n a : Nat) (B : Option Addr) (b : Nat) (l0 l1 : List Stm) (row i k : Nat) (C : Option Addr) (j jc : Nat) (ys : List Nat) (w : World) (h0 : Hid (StmsAt w A n l0)) (h1 : Hid (StmsAt w B n l1)) (hC : Hid (AtB w C j ys)) (hf : fewD l0 l1 = true) (hr : rightD l0 l1 = true) (hj : j ≤ 300) (hn1 : 1 ≤ n) (hn8 : n ≤ 8) (hrow : row < 256) (hi : i < 256) (hrr : row % 2 = 0) (hik : i % n = k) :
    Calls Try.prog 6 #[.agg #[.int .u64 (r : Int), .slice A n a, .slice B n b, .int .u8 (row : Int), .int .u8 (i : Int), .slice C j jc]] w fun e w' => e = .returned (.bool true) ∧ Below w.heap.size w w' := by
  have HFEW := fun w h h' => few_at (r : Int) A n a B n b l0 l1 w h h'
  rw [hf] at HFEW
  have HRIGHT := fun w h h' => refRightD_at (r : Int) A n a B n b l0 l1 w h h'
  rw [hr] at HRIGHT
  have kd : decide ((300 : Int) < (j : Int)) = false := by rw [decide_eq_false_iff_not]; omega
  have hk : k < n := by rw [← hik]; exact Nat.mod_lt _ (by omega)
  have kr1 : (row : Int).tmod 2 = 0 := by rw [Int.tmod_eq_emod_of_nonneg (by omega)]; omega
  have kr2 : (row : Int) % 2 = 0 := by omega
  have kn1 : (i : Int).tmod (n : Int) = (k : Int) := by rw [Int.tmod_eq_emod_of_nonneg (by omega), ← hik]; exact (Int.natCast_emod _ _).symm
  have kn2 : (i : Int) % (n : Int) = (k : Int) := by rw [← hik]; exact (Int.natCast_emod _ _).symm
  have hn0 : ¬ n = 0 := by omega
  have kqw0 : IntKind.i64.wrap 0 = 0 := rfl
  have kqw1 : IntKind.i64.wrap 1 = 1 := rfl
  have HN8 := Lib.hid hn8
  have HJ := Lib.hid hj
  have HYL := Lib.hid hC.out.1
  clear hrr hik hf hr hj
  go_enter Try.func6, Try.ntmps6
  go_wp2_with fail
  refine (shown_below _).mono ?_
  rintro e w1 ⟨rfl, hb⟩
  have BB := Lib.hid ((below_pair w _ _).trans (hb.mono (below_pair w _ _).size))
  have D1 : Hid (DAt w1 (w.heap.size + 1) (r : Int) A n a B n b l0 l1) := Lib.hid (DAt.below ⟨VarAt.three1 w (.int .u64 (r : Int)) (.slice A n a) (.slice B n b) (.cells #[.int .u64 (r : Int), .slice A n a, .slice B n b, .int .u8 (row : Int), .int .u8 (i : Int), .slice C j jc] 62) 26, h0.out.later (below_pair w _ _), h1.out.later (below_pair w _ _)⟩ hb)
  clear hb
  obtain ⟨hz1, c0, c1, c2, f0, f1, f2⟩ := D1.out.1.three
  have S10 := Lib.hid D1.out.2.1
  have S11 := Lib.hid D1.out.2.2
  go_wp2_with (first | (go_at_call 9; (with_reducible refine (HFEW _ S10 S11).mono ?_); rintro e w2 ⟨rfl, hbn⟩; have D2 := Lib.hid (D1.out.below hbn); have BB2 := Lib.hid (BB.out.trans (hbn.mono BB.out.size)); clear hbn hz1 c0 c1 c2 f0 f1 f2 D1 BB; obtain ⟨hz1, c0, c1, c2, f0, f1, f2⟩ := D2.out.1.three; have S20 := Lib.hid D2.out.2.1; have S21 := Lib.hid D2.out.2.2) | (go_at_call 12; (with_reducible refine (HRIGHT _ S20 S21).mono ?_); rintro e w3 ⟨rfl, hbn⟩; have D3 := Lib.hid (D2.out.below hbn); have BB3 := Lib.hid (BB2.out.trans (hbn.mono BB2.out.size)); clear hbn hz1 c0 c1 c2 f0 f1 f2 D2 BB2 S20 S21; obtain ⟨hz1, c0, c1, c2, f0, f1, f2⟩ := D3.out.1.three))
  have S30 := Lib.hid D3.out.2.1
  have S31 := Lib.hid D3.out.2.2
  clear hz1 c0 c1 c2 f0 f1 f2 HFEW HRIGHT S10 S11
  refine (dskClear0_at (r : Int) A n a B n b l0 l1 (by have := HN8.out; omega) _ S30 S31).mono ?_
  rintro e w4 ⟨A4, a4, B4, b4, rfl, s0, s1, hb, _⟩
  obtain ⟨x4, hx4⟩ : ∃ x, w4.alloc (.cells #[.int .u64 (r : Int), .slice A4 n a4, .slice B4 n b4] 26) = x := ⟨_, rfl⟩
  have hbx : Below w4.heap.size w4 x4 := by rw [← hx4]; exact al_below _ _
  have E4 : Hid (DAt x4 w4.heap.size (r : Int) A4 n a4 B4 n b4 (zerosS n) l1) := Lib.hid (by rw [← hx4]; exact DAt.made s0 s1 _)
  have hbn := hb.trans (hbx.mono hb.size)
  have D4 := Lib.hid (D3.out.below hbn)
  have BB4 := Lib.hid (BB3.out.trans (hbn.mono BB3.out.size))
  clear s0 s1 hb hbx hbn D3 BB3 S30 S31
  have V := Lib.hid D4.out.1
  have W := Lib.hid E4.out.1
  have P0 := Lib.hid D4.out.2.1
  have P1 := Lib.hid D4.out.2.2
  have Q0 := Lib.hid E4.out.2.1
  have Q1 := Lib.hid E4.out.2.2
  have hV0 : ∀ w', Below x4.heap.size x4 w' → w'.cell? ⟨w.heap.size + 1, 0, none⟩ = some (.int .u64 (r : Int)) := fun w' hb => (V.out.below hb).2.1 0 _ rfl
  have hV1 : ∀ w', Below x4.heap.size x4 w' → w'.cell? ⟨w.heap.size + 1, 1, none⟩ = some (.slice A n a) := fun w' hb => (V.out.below hb).2.1 1 _ rfl
  have hV2 : ∀ w', Below x4.heap.size x4 w' → w'.cell? ⟨w.heap.size + 1, 2, none⟩ = some (.slice B n b) := fun w' hb => (V.out.below hb).2.1 2 _ rfl
  have hW0 : ∀ w', Below x4.heap.size x4 w' → w'.cell? ⟨w4.heap.size, 0, none⟩ = some (.int .u64 (r : Int)) := fun w' hb => (W.out.below hb).2.1 0 _ rfl
  have hW1 : ∀ w', Below x4.heap.size x4 w' → w'.cell? ⟨w4.heap.size, 1, none⟩ = some (.slice A4 n a4) := fun w' hb => (W.out.below hb).2.1 1 _ rfl
  have hW2 : ∀ w', Below x4.heap.size x4 w' → w'.cell? ⟨w4.heap.size, 2, none⟩ = some (.slice B4 n b4) := fun w' hb => (W.out.below hb).2.1 2 _ rfl
  have hB0 : Below x4.heap.size x4 x4 := Below.refl _ _
  go_wp2_with fail
  try rw [hx4]
  clear hx4
  first | (go_region_held3 (fun w' => Below x4.heap.size x4 w') (first | assumption | (exact Below.drew (by assumption)) | (exact Below.drew (Below.refl _ _)))
    (first
      | (go_at_call 28; (with_reducible refine (all_at B4 n b4 B b l1 _ (Lib.hid (StmsAt.later Q1.out (by first | assumption | (exact Below.drew (Below.refl _ _)) | (exact Below.drew (by assumption))))) (Lib.hid (StmsAt.later P1.out (by first | assumption | (exact Below.drew (Below.refl _ _)) | (exact Below.drew (by assumption)))))).mono ?_); rintro e w5 ⟨rfl, hbw5⟩; have hBw5 : Below x4.heap.size x4 w5 := below_step hbw5 (by first | assumption | (exact Below.drew (Below.refl _ _)) | (exact Below.drew (by assumption))); skip; clear hbw5))) | fail
  all_goals
    have hb5 : Below x4.heap.size x4 w5 := by assumption
    have D5 := Lib.hid (D4.out.below hb5)
    have E5 := Lib.hid (E4.out.below hb5)
    have BB5 := Lib.hid (BB4.out.trans (hb5.mono BB4.out.size))
    clear hV0 hV1 hV2 hW0 hW1 hW2 hb5 D4 E4 BB4 V W P0 P1 Q0 Q1
    clear hBw5
    try clear hS
    obtain ⟨hz5, e0, e1, e2, g0, g1, g2⟩ := E5.out.1.three
    go_wp2_with fail
    go_loopw [13] (fun u wr => ∃ y : Nat, y ≤ n ∧ u = .int .i64 y ∧ wr = w5) (fun u _ => n - (intOf u).toNat)
    case atStart => exact ⟨0, Nat.zero_le _, rfl, (by first | rfl | trivial)⟩
    case round =>
      obtain ⟨y, hy, rfl, rfl⟩ := hrel
      by_cases hlt : y < n
      · obtain ⟨x, g, off, Z0, zc, hx, rfl, hg, hg0, hg1, _, _, _, _⟩ := E5.out.2.1.at_ y hlt
        obtain rfl : x = Stm.zero := (Option.some.inj ((zerosS_get n y hlt).symm.trans hx)).symm
        have hd0 : wr.cell? ⟨g, off + y * 2, none⟩ = some (.slice Z0 0 zc) := hg0
        have hd1 : wr.cell? ⟨g, off + y * 2 + 1, none⟩ = some (.int .i64 0) := hg1
        clear hg0 hg1 hx
        go_wp2_with fail
        go_roundw
        case rel => exact ⟨y + 1, by omega, by go_num, (by first | rfl | trivial)⟩
        case measure => simp [intOf]; omega
      · obtain rfl : y = n := by omega
        have T0 := Lib.hid E5.out.2.1
        have T1 := Lib.hid E5.out.2.2
        have HC5 := Lib.hid (AtB.below hC.out BB5.out (Nat.le_refl _))
        go_wp2_with fail
        clear hz5 e0 e1 e2 g0 g1 g2
        refine (rowsAppend0 (r : Int) A4 y a4 B4 b4 l0 l1 k hk (by have := HN8.out; omega) C jc j ys (by have := HJ.out; omega) _ T0 T1 HC5).mono ?_
        rintro e w6 ⟨A6, a6, B6, b6, rfl, s0, s1, hb, _⟩
        obtain ⟨x6, hx6⟩ : ∃ x, w6.alloc (.cells #[.int .u64 (r : Int), .slice A6 y a6, .slice B6 y b6] 26) = x := ⟨_, rfl⟩
        have hbx : Below w6.heap.size w6 x6 := by rw [← hx6]; exact al_below _ _
        have F6 : Hid (DAt x6 w6.heap.size (r : Int) A6 y a6 B6 y b6 ((zerosS y).set k ⟨ys, 0⟩) l1) := Lib.hid (by rw [← hx6]; exact DAt.made s0 s1 _)
        have hbn := hb.trans (hbx.mono hb.size)
        have D6 := Lib.hid (D5.out.below hbn)
        have E6 := Lib.hid (E5.out.below hbn)
        have HC6 := Lib.hid (AtB.later HC5 hbn)
        have BB6 := Lib.hid (BB5.out.trans (hbn.mono BB5.out.size))
        clear s0 s1 hb hbx hbn D5 E5 BB5 HC5 T0 T1
        obtain ⟨hz5, e0, e1, e2, g0, g1, g2⟩ := F6.out.1.three
        have T0 := Lib.hid F6.out.2.1
        have T1 := Lib.hid F6.out.2.2
        go_wp2_with fail
        clear hz5 e0 e1 e2 g0 g1 g2
        refine (rowsRead0 (r : Int) A6 y a6 B6 b6 l0 l1 k hk ys _ T0 T1).mono ?_
        rintro e w7 ⟨X7, c7, rfl, _, hat, hbn⟩
        have HX7 := Lib.hid hat
        have D7 := Lib.hid (D6.out.below hbn)
        have E7 := Lib.hid (E6.out.below hbn)
        have HC7 := Lib.hid (AtB.later HC6 hbn)
        have BB7 := Lib.hid (BB6.out.trans (hbn.mono BB6.out.size))
        clear hbn hat D6 E6 HC6 BB6 F6 T0 T1
        have s1 := run_str HX7.out c7
        have s2 := run_str HC7.out jc
        generalize strN ys = S at *
        obtain ⟨hz5, e0, e1, e2, g0, g1, g2⟩ := E7.out.1.three
        obtain ⟨hz6, i0, i1, i2, m0, m1, m2⟩ := D7.out.1.three
        go_wp2_with fail
        go_ret
        exact ⟨rfl, BB7.out⟩

set_option maxRecDepth 100000 in
set_option maxHeartbeats 8000000 in
theorem walk1 (r : Nat) (A : Option Addr) (n a : Nat) (B : Option Addr) (b : Nat) (l0 l1 : List Stm) (row i k : Nat) (C : Option Addr) (j jc : Nat) (ys : List Nat) (w : World) (h0 : Hid (StmsAt w A n l0)) (h1 : Hid (StmsAt w B n l1)) (hC : Hid (AtB w C j ys)) (hf : fewD l0 l1 = true) (hr : rightD l0 l1 = true) (hj : j ≤ 300) (hn1 : 1 ≤ n) (hn8 : n ≤ 8) (hrow : row < 256) (hi : i < 256) (hrr : row % 2 = 1) (hik : i % n = k) :
    Calls Try.prog 6 #[.agg #[.int .u64 (r : Int), .slice A n a, .slice B n b, .int .u8 (row : Int), .int .u8 (i : Int), .slice C j jc]] w fun e w' => e = .returned (.bool true) ∧ Below w.heap.size w w' := by
  have HFEW := fun w h h' => few_at (r : Int) A n a B n b l0 l1 w h h'
  rw [hf] at HFEW
  have HRIGHT := fun w h h' => refRightD_at (r : Int) A n a B n b l0 l1 w h h'
  rw [hr] at HRIGHT
  have kd : decide ((300 : Int) < (j : Int)) = false := by rw [decide_eq_false_iff_not]; omega
  have hk : k < n := by rw [← hik]; exact Nat.mod_lt _ (by omega)
  have kr1 : (row : Int).tmod 2 = 1 := by rw [Int.tmod_eq_emod_of_nonneg (by omega)]; omega
  have kr2 : (row : Int) % 2 = 1 := by omega
  have kn1 : (i : Int).tmod (n : Int) = (k : Int) := by rw [Int.tmod_eq_emod_of_nonneg (by omega), ← hik]; exact (Int.natCast_emod _ _).symm
  have kn2 : (i : Int) % (n : Int) = (k : Int) := by rw [← hik]; exact (Int.natCast_emod _ _).symm
  have hn0 : ¬ n = 0 := by omega
  have kqw0 : IntKind.i64.wrap 0 = 0 := rfl
  have kqw1 : IntKind.i64.wrap 1 = 1 := rfl
  have HN8 := Lib.hid hn8
  have HJ := Lib.hid hj
  have HYL := Lib.hid hC.out.1
  clear hrr hik hf hr hj
  go_enter Try.func6, Try.ntmps6
  go_wp2_with fail
  refine (shown_below _).mono ?_
  rintro e w1 ⟨rfl, hb⟩
  have BB := Lib.hid ((below_pair w _ _).trans (hb.mono (below_pair w _ _).size))
  have D1 : Hid (DAt w1 (w.heap.size + 1) (r : Int) A n a B n b l0 l1) := Lib.hid (DAt.below ⟨VarAt.three1 w (.int .u64 (r : Int)) (.slice A n a) (.slice B n b) (.cells #[.int .u64 (r : Int), .slice A n a, .slice B n b, .int .u8 (row : Int), .int .u8 (i : Int), .slice C j jc] 62) 26, h0.out.later (below_pair w _ _), h1.out.later (below_pair w _ _)⟩ hb)
  clear hb
  obtain ⟨hz1, c0, c1, c2, f0, f1, f2⟩ := D1.out.1.three
  have S10 := Lib.hid D1.out.2.1
  have S11 := Lib.hid D1.out.2.2
  go_wp2_with (first | (go_at_call 9; (with_reducible refine (HFEW _ S10 S11).mono ?_); rintro e w2 ⟨rfl, hbn⟩; have D2 := Lib.hid (D1.out.below hbn); have BB2 := Lib.hid (BB.out.trans (hbn.mono BB.out.size)); clear hbn hz1 c0 c1 c2 f0 f1 f2 D1 BB; obtain ⟨hz1, c0, c1, c2, f0, f1, f2⟩ := D2.out.1.three; have S20 := Lib.hid D2.out.2.1; have S21 := Lib.hid D2.out.2.2) | (go_at_call 12; (with_reducible refine (HRIGHT _ S20 S21).mono ?_); rintro e w3 ⟨rfl, hbn⟩; have D3 := Lib.hid (D2.out.below hbn); have BB3 := Lib.hid (BB2.out.trans (hbn.mono BB2.out.size)); clear hbn hz1 c0 c1 c2 f0 f1 f2 D2 BB2 S20 S21; obtain ⟨hz1, c0, c1, c2, f0, f1, f2⟩ := D3.out.1.three))
  have S30 := Lib.hid D3.out.2.1
  have S31 := Lib.hid D3.out.2.2
  clear hz1 c0 c1 c2 f0 f1 f2 HFEW HRIGHT S10 S11
  refine (dskClear1_at (r : Int) A n a B n b l0 l1 (by have := HN8.out; omega) _ S30 S31).mono ?_
  rintro e w4 ⟨A4, a4, B4, b4, rfl, s0, s1, hb, _⟩
  obtain ⟨x4, hx4⟩ : ∃ x, w4.alloc (.cells #[.int .u64 (r : Int), .slice A4 n a4, .slice B4 n b4] 26) = x := ⟨_, rfl⟩
  have hbx : Below w4.heap.size w4 x4 := by rw [← hx4]; exact al_below _ _
  have E4 : Hid (DAt x4 w4.heap.size (r : Int) A4 n a4 B4 n b4 l0 (zerosS n)) := Lib.hid (by rw [← hx4]; exact DAt.made s0 s1 _)
  have hbn := hb.trans (hbx.mono hb.size)
  have D4 := Lib.hid (D3.out.below hbn)
  have BB4 := Lib.hid (BB3.out.trans (hbn.mono BB3.out.size))
  clear s0 s1 hb hbx hbn D3 BB3 S30 S31
  have V := Lib.hid D4.out.1
  have W := Lib.hid E4.out.1
  have P0 := Lib.hid D4.out.2.1
  have P1 := Lib.hid D4.out.2.2
  have Q0 := Lib.hid E4.out.2.1
  have Q1 := Lib.hid E4.out.2.2
  have hV0 : ∀ w', Below x4.heap.size x4 w' → w'.cell? ⟨w.heap.size + 1, 0, none⟩ = some (.int .u64 (r : Int)) := fun w' hb => (V.out.below hb).2.1 0 _ rfl
  have hV1 : ∀ w', Below x4.heap.size x4 w' → w'.cell? ⟨w.heap.size + 1, 1, none⟩ = some (.slice A n a) := fun w' hb => (V.out.below hb).2.1 1 _ rfl
  have hV2 : ∀ w', Below x4.heap.size x4 w' → w'.cell? ⟨w.heap.size + 1, 2, none⟩ = some (.slice B n b) := fun w' hb => (V.out.below hb).2.1 2 _ rfl
  have hW0 : ∀ w', Below x4.heap.size x4 w' → w'.cell? ⟨w4.heap.size, 0, none⟩ = some (.int .u64 (r : Int)) := fun w' hb => (W.out.below hb).2.1 0 _ rfl
  have hW1 : ∀ w', Below x4.heap.size x4 w' → w'.cell? ⟨w4.heap.size, 1, none⟩ = some (.slice A4 n a4) := fun w' hb => (W.out.below hb).2.1 1 _ rfl
  have hW2 : ∀ w', Below x4.heap.size x4 w' → w'.cell? ⟨w4.heap.size, 2, none⟩ = some (.slice B4 n b4) := fun w' hb => (W.out.below hb).2.1 2 _ rfl
  have hB0 : Below x4.heap.size x4 x4 := Below.refl _ _
  go_wp2_with fail
  try rw [hx4]
  clear hx4
  first | (go_region_held3 (fun w' => Below x4.heap.size x4 w') (first | assumption | (exact Below.drew (by assumption)) | (exact Below.drew (Below.refl _ _)))
    (first
      | (go_at_call 28; (with_reducible refine (all_at A4 n a4 A a l0 _ (Lib.hid (StmsAt.later Q0.out (by first | assumption | (exact Below.drew (Below.refl _ _)) | (exact Below.drew (by assumption))))) (Lib.hid (StmsAt.later P0.out (by first | assumption | (exact Below.drew (Below.refl _ _)) | (exact Below.drew (by assumption)))))).mono ?_); rintro e w5 ⟨rfl, hbw5⟩; have hBw5 : Below x4.heap.size x4 w5 := below_step hbw5 (by first | assumption | (exact Below.drew (Below.refl _ _)) | (exact Below.drew (by assumption))); skip; clear hbw5))) | fail
  all_goals
    have hb5 : Below x4.heap.size x4 w5 := by assumption
    have D5 := Lib.hid (D4.out.below hb5)
    have E5 := Lib.hid (E4.out.below hb5)
    have BB5 := Lib.hid (BB4.out.trans (hb5.mono BB4.out.size))
    clear hV0 hV1 hV2 hW0 hW1 hW2 hb5 D4 E4 BB4 V W P0 P1 Q0 Q1
    clear hBw5
    try clear hS
    obtain ⟨hz5, e0, e1, e2, g0, g1, g2⟩ := E5.out.1.three
    go_wp2_with fail
    go_loopw [13] (fun u wr => ∃ y : Nat, y ≤ n ∧ u = .int .i64 y ∧ wr = w5) (fun u _ => n - (intOf u).toNat)
    case atStart => exact ⟨0, Nat.zero_le _, rfl, (by first | rfl | trivial)⟩
    case round =>
      obtain ⟨y, hy, rfl, rfl⟩ := hrel
      by_cases hlt : y < n
      · obtain ⟨x, g, off, Z0, zc, hx, rfl, hg, hg0, hg1, _, _, _, _⟩ := E5.out.2.2.at_ y hlt
        obtain rfl : x = Stm.zero := (Option.some.inj ((zerosS_get n y hlt).symm.trans hx)).symm
        have hd0 : wr.cell? ⟨g, off + y * 2, none⟩ = some (.slice Z0 0 zc) := hg0
        have hd1 : wr.cell? ⟨g, off + y * 2 + 1, none⟩ = some (.int .i64 0) := hg1
        clear hg0 hg1 hx
        go_wp2_with fail
        go_roundw
        case rel => exact ⟨y + 1, by omega, by go_num, (by first | rfl | trivial)⟩
        case measure => simp [intOf]; omega
      · obtain rfl : y = n := by omega
        have T0 := Lib.hid E5.out.2.1
        have T1 := Lib.hid E5.out.2.2
        have HC5 := Lib.hid (AtB.below hC.out BB5.out (Nat.le_refl _))
        go_wp2_with fail
        clear hz5 e0 e1 e2 g0 g1 g2
        refine (rowsAppend1 (r : Int) A4 y a4 B4 b4 l0 l1 k hk (by have := HN8.out; omega) C jc j ys (by have := HJ.out; omega) _ T0 T1 HC5).mono ?_
        rintro e w6 ⟨A6, a6, B6, b6, rfl, s0, s1, hb, _⟩
        obtain ⟨x6, hx6⟩ : ∃ x, w6.alloc (.cells #[.int .u64 (r : Int), .slice A6 y a6, .slice B6 y b6] 26) = x := ⟨_, rfl⟩
        have hbx : Below w6.heap.size w6 x6 := by rw [← hx6]; exact al_below _ _
        have F6 : Hid (DAt x6 w6.heap.size (r : Int) A6 y a6 B6 y b6 l0 ((zerosS y).set k ⟨ys, 0⟩)) := Lib.hid (by rw [← hx6]; exact DAt.made s0 s1 _)
        have hbn := hb.trans (hbx.mono hb.size)
        have D6 := Lib.hid (D5.out.below hbn)
        have E6 := Lib.hid (E5.out.below hbn)
        have HC6 := Lib.hid (AtB.later HC5 hbn)
        have BB6 := Lib.hid (BB5.out.trans (hbn.mono BB5.out.size))
        clear s0 s1 hb hbx hbn D5 E5 BB5 HC5 T0 T1
        obtain ⟨hz5, e0, e1, e2, g0, g1, g2⟩ := F6.out.1.three
        have T0 := Lib.hid F6.out.2.1
        have T1 := Lib.hid F6.out.2.2
        go_wp2_with fail
        clear hz5 e0 e1 e2 g0 g1 g2
        refine (rowsRead1 (r : Int) A6 y a6 B6 b6 l0 l1 k hk ys _ T0 T1).mono ?_
        rintro e w7 ⟨X7, c7, rfl, _, hat, hbn⟩
        have HX7 := Lib.hid hat
        have D7 := Lib.hid (D6.out.below hbn)
        have E7 := Lib.hid (E6.out.below hbn)
        have HC7 := Lib.hid (AtB.later HC6 hbn)
        have BB7 := Lib.hid (BB6.out.trans (hbn.mono BB6.out.size))
        clear hbn hat D6 E6 HC6 BB6 F6 T0 T1
        have s1 := run_str HX7.out c7
        have s2 := run_str HC7.out jc
        generalize strN ys = S at *
        obtain ⟨hz5, e0, e1, e2, g0, g1, g2⟩ := E7.out.1.three
        obtain ⟨hz6, i0, i1, i2, m0, m1, m2⟩ := D7.out.1.three
        go_wp2_with fail
        go_ret
        exact ⟨rfl, BB7.out⟩

set_option maxRecDepth 100000 in
theorem lifted (os : Os) (started : os.Started) (H : Type) (enc : TypeId × Value → H) :
    ReturnsInHanded {} Try.checked os 6 .any (Rows.diskRowsSpec.pre6 enc Try.prog Try.f6 Rows.diskRowsRow.domain false) (Rows.diskRowsSpec.post enc Try.prog Try.f6 false true false false) := by
  refine law_lifted (C := Try.checked) own started (by kernel_rfl) Try.func6
    (ChangeSpec.witness6 (enc := enc) (C := Try.checked) false ⟨#[], #[.agg #[.int .u64 0, .slice none 0 0, .slice none 0 0, .int .u8 0, .int .u8 0, .slice none 0 0]], []⟩ 8 (by kernel_rfl) (by kernel_rfl) (by kernel_rfl) (by kernel_rfl))
    (by kernel_rfl) (by kernel_rfl) Try.underlying4 rfl (by kernel_rfl) ?_
  intro W base args ds before hval hA hwt hlt
  have hA' : DataW.TrodAll enc Try.prog W 0 (fun _ => true) true Try.f6.params.toList args.toList ds before := hA
  have hval' : ∀ (j : Nat) t v, Try.f6.params[j]? = some t → args[j]? = some v → Value.okWide Try.prog W .any base t v := hval
  have hwt' : (DataW.weightsEach Try.prog Try.f6.params.toList ds).all (· ≤ reachBytes) = true := hwt
  rw [Try.params6] at hA' hval' hwt'
  obtain ⟨v0, vs0, d0, ds0, p0, q0, hargs, rfl, rfl, h0, r0⟩ := trodAll_cons hA'
  obtain ⟨rfl, rfl, rfl⟩ := trodAll_nil r0
  obtain rfl : args = #[v0] := by cases args; simp_all
  obtain ⟨r, A, n, a, B, m, b, l0, l1, row, i, C, j, jc, ys, rfl, hr, hna, hmb, hl0, hl1, hrow, hi, hjc, hj, hC⟩ := open_rows (hval' 0 62 v0 rfl rfl) h0 (sized_of hwt' (j := 0) (t := 62) rfl rfl) (fun x hx => hlt x (by simp [hx]))
  refine ⟨rfl, ?_⟩
  by_cases hf : fewD l0 l1 = true
  · by_cases hrt : rightD l0 l1 = true
    · by_cases hjl : 300 < j
      · exact walkLong r A n a B m b l0 l1 row i C j jc W (Lib.hid hl0) (Lib.hid hl1) hf hrt hjl
      · obtain ⟨e1, _, _, h1, _⟩ := right_len hrt
        obtain ⟨h8, _, _⟩ := fewD_iff hf
        obtain rfl : n = m := by have := hl0.1; have := hl1.1; omega
        have hnn : l0.length = n := hl0.1
        rcases Nat.mod_two_eq_zero_or_one row with hz | hz
        · exact walk0 r A n a B b l0 l1 row i _ C j jc ys W (Lib.hid hl0) (Lib.hid hl1) (Lib.hid hC) hf hrt (by omega) (by omega) (by omega) hrow hi hz rfl
        · exact walk1 r A n a B b l0 l1 row i _ C j jc ys W (Lib.hid hl0) (Lib.hid hl1) (Lib.hid hC) hf hrt (by omega) (by omega) (by omega) hrow hi hz rfl
    · exact walkWrong r A n a B m b l0 l1 row i C j jc W (Lib.hid hl0) (Lib.hid hl1) hf (by simpa using hrt)
  · exact walkFew r A n a B m b l0 l1 row i C j jc W (Lib.hid hl0) (Lib.hid hl1) (by simpa using hf)

theorem over : Rows.diskRowsRow.holds Try.pinned (OpenSpec.ofChange Rows.diskRowsSpec) :=
  OpenClaim.holds_of_wide 6 Try.f6 rfl rfl rfl rfl rfl rfl rfl ⟨rfl, rfl, rfl, rfl, rfl⟩ rfl rfl rfl rfl rfl (by kernel_rfl) Try.func6 (by kernel_rfl)
    (of_decide_eq_true (by kernel_rfl)) (by unfold Func.isWrapper; first | (rw [if_pos (by decide +kernel)]; kernel_rfl) | (rw [if_neg (by decide +kernel)]; exact ⟨rfl, rfl⟩))
    (fun os started H enc _ => lifted os started H enc)

/-- The statement. -/
theorem proved : Rows.DiskRowsSaid :=
  over
#print axioms proved
end Go.Proofs.Ytfggnmmiifjilaa.diskRows
