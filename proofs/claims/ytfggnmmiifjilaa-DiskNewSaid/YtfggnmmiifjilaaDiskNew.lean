/-
  DiskNew: a new disk is right, and empty; a crash turns it not; each of its streams is read as nothing, and none beside them; for every number of threads, every row and place, and every numbers (of up to 200). No condition.
-/
import Derived.Test.YtfggnmmiifjilaaDskShown
import Derived.Test.YtfggnmmiifjilaaDskOpen
import Derived.Test.YtfggnmmiifjilaaLaw
import Derived.Deep.RegionHeld3
namespace Go.Proofs.Ytfggnmmiifjilaa.diskNew
open Go.ChangeShapes Go.WideShapes Go.ChangeAt Go.RowKit
set_option linter.unusedVariables false
theorem own : ownKnob Try.prog.godebug = none := by kernel_rfl

theorem zerosS_get (n k : Nat) (hk : k < n) : (zerosS n)[k]? = some Stm.zero := by unfold zerosS; rw [List.getElem?_replicate, if_pos hk]
theorem zerosS_all (n : Nat) : allB (zerosS n) = true := by
  unfold allB
  rw [List.all_eq_true]
  intro x hx
  rw [List.eq_of_mem_replicate hx]
  rfl
theorem cut_zero (c : Int) : Stm.zero.cut c = Stm.zero := by
  have h : Stm.zero.cutN c = 0 := by unfold Stm.cutN Stm.zero cutN; simp
  unfold Stm.cut
  rw [h]
  rfl
theorem cutL_zeros (n : Nat) (c : Nat → Int) : cutL (zerosS n) c = zerosS n := by
  unfold cutL
  apply List.ext_getElem?
  intro i
  by_cases hi : i < n
  · rw [List.getElem?_map, List.getElem?_range (by simpa [zerosS] using hi), zerosS_get n i hi]
    simp [List.getD_eq_getElem?_getD, zerosS_get n i hi, cut_zero]
  · rw [List.getElem?_eq_none (by simpa [zerosS] using hi), List.getElem?_eq_none (by simpa [zerosS] using hi)]
theorem newCrash (n a b : Nat) (hn : n ≤ 64) (A B C : Option Addr) (cn cc : Nat) (hcc : cn ≤ cc) (f : Nat → Int) (w : World) (h0 : Hid (StmsAt w A n (zerosS n))) (h1 : Hid (StmsAt w B n (zerosS n))) (hC : Hid (AtI w C cn f)) :
    Calls Try.prog 24 #[.agg #[.int .u64 0, .slice A n a, .slice B n b], .slice C cn cc] w (DskPostV w 0 A B n n (zerosS n) (zerosS n)) := by
  have h := crash_at 0 A n a B n b (zerosS n) (zerosS n) (by omega) (by omega) (zerosS_all n) (zerosS_all n) C cn cc hcc f w h0 h1 hC
  rw [cutL_zeros, cutL_zeros] at h
  exact h
theorem newRight (n a b : Nat) (h1 : 1 ≤ n) (hn : n ≤ 64) (A B : Option Addr) (w : World) (h0 : Hid (StmsAt w A n (zerosS n))) (h1' : Hid (StmsAt w B n (zerosS n))) :
    Calls Try.prog 14 #[.agg #[.int .u64 0, .slice A n a, .slice B n b]] w (Kept w (.bool true)) := by
  have h := diskRight_at 0 A n a B n b (zerosS n) (zerosS n) w h0 h1'
  rw [rightD_ok rfl (zerosS_all n) (zerosS_all n), h0.out.1, show countB (n : Int) = true by unfold countB; rw [decide_eq_true (by omega), decide_eq_true (by omega)]; rfl] at h
  exact h
theorem newRow (n a b : Nat) (A B : Option Addr) (w : World) : Calls Try.prog 23 #[.agg #[.int .u64 0, .slice A n a, .slice B n b]] w (Kept w (.int .i64 0)) := row_any 0 (by omega) (.slice A n a) (.slice B n b) rfl rfl w

set_option maxRecDepth 100000 in
set_option maxHeartbeats 4000000 in
theorem walkY0L (t q n : Nat) (ht : t < 256) (hq : t % 64 = q) (hn : 1 + q = n) (k : Nat) (hk : k < n) (D : Option Addr) (dn dc : Nat) (f : Nat → Int) (hdc : dn ≤ dc) (hdl : 200 < dn) (w : World) (hD : Hid (AtI w D dn f)) :
    Calls Try.prog 7 #[.agg #[.int .u8 (t : Int), .int .i64 0, .int .i64 (k : Int), .slice D dn dc]] w fun e w' => e = .returned (.bool true) ∧ Below w.heap.size w w' := by
  have hq64 : q < 64 := by omega
  have kr1 : (t : Int).tmod 64 = (q : Int) := by rw [Int.tmod_eq_emod_of_nonneg (by omega)]; omega
  have kr2 : (t : Int) % 64 = (q : Int) := by omega
  have ks : (1 : Int) + (q : Int) = (n : Int) := by omega
  have kd : decide ((200 : Int) < (dn : Int)) = true := by rw [decide_eq_true_iff]; omega
  have hn1 : 1 ≤ n := by omega
  have hn64 : n ≤ 64 := by omega
  have HN1 := Lib.hid hn1
  have HN64 := Lib.hid hn64
  have i0 : decide ((0 : Int) ≤ (k : Int)) = true := by rw [decide_eq_true_iff]; omega
  have i1 : decide ((k : Int) < (n : Int)) = true := by rw [decide_eq_true_iff]; omega
  have HDC := Lib.hid hdc
  clear hq hn hdl hdc
  go_enter Try.func7, Try.ntmps7
  go_wp2_with fail
  refine (shown_below _).mono ?_
  rintro e w1 ⟨rfl, hb⟩
  have BB := Lib.hid (below_box hb)
  have V1 := ((VarAt.made w #[.int .u8 (t : Int), .int .i64 0, .int .i64 (k : Int), .slice D dn dc] 65).below hb)
  clear hb V1
  go_wp2_with fail
  refine (dskNew_yes n HN1.out HN64.out _).mono ?_
  rintro e w2 ⟨A1, a1, B1, b1, rfl, s0, s1, hb, _⟩
  obtain ⟨x2, hx2⟩ : ∃ x, w2.alloc (.cells #[.int .u64 0, .slice A1 n a1, .slice B1 n b1] 26) = x := ⟨_, rfl⟩
  have hbx : Below w2.heap.size w2 x2 := by rw [← hx2]; exact al_below _ _
  have D1 : Hid (DAt x2 w2.heap.size 0 A1 n a1 B1 n b1 (zerosS n) (zerosS n)) := Lib.hid (by rw [← hx2]; exact DAt.made s0 s1 _)
  have BBn := Lib.hid (BB.out.trans ((hb.trans (hbx.mono hb.size)).mono BB.out.size)); clear BB; have BB := BBn; clear BBn
  clear s0 s1 hb hbx
  obtain ⟨hz, c0, c1, c2, f0, f1, f2⟩ := D1.out.1.three
  have H0 := Lib.hid D1.out.2.1
  have H1 := Lib.hid D1.out.2.2
  go_wp2_with fail
  clear hz c0 c1 c2 f0 f1 f2
  refine (dskRead0_at 0 A1 n a1 B1 n b1 (zerosS n) (zerosS n) k hk Stm.zero (zerosS_get n k hk) _ H0 H1).mono ?_
  rintro e w5 ⟨A5, c5, rfl, _, _, hbn⟩
  have D1n := Lib.hid (D1.out.below hbn); clear D1; have D1 := D1n; clear D1n
  have BBn := Lib.hid (BB.out.trans (hbn.mono BB.out.size)); clear BB; have BB := BBn; clear BBn
  clear hbn H0 H1
  go_wp2_with fail
  go_ret
  exact ⟨rfl, BB.out⟩

set_option maxRecDepth 100000 in
set_option maxHeartbeats 4000000 in
theorem walkY0S (t q n : Nat) (ht : t < 256) (hq : t % 64 = q) (hn : 1 + q = n) (k : Nat) (hk : k < n) (D : Option Addr) (dn dc : Nat) (f : Nat → Int) (hdc : dn ≤ dc) (hdl : dn ≤ 200) (w : World) (hD : Hid (AtI w D dn f)) :
    Calls Try.prog 7 #[.agg #[.int .u8 (t : Int), .int .i64 0, .int .i64 (k : Int), .slice D dn dc]] w fun e w' => e = .returned (.bool true) ∧ Below w.heap.size w w' := by
  have hq64 : q < 64 := by omega
  have kr1 : (t : Int).tmod 64 = (q : Int) := by rw [Int.tmod_eq_emod_of_nonneg (by omega)]; omega
  have kr2 : (t : Int) % 64 = (q : Int) := by omega
  have ks : (1 : Int) + (q : Int) = (n : Int) := by omega
  have kd : decide ((200 : Int) < (dn : Int)) = false := by rw [decide_eq_false_iff_not]; omega
  have hn1 : 1 ≤ n := by omega
  have hn64 : n ≤ 64 := by omega
  have HN1 := Lib.hid hn1
  have HN64 := Lib.hid hn64
  have i0 : decide ((0 : Int) ≤ (k : Int)) = true := by rw [decide_eq_true_iff]; omega
  have i1 : decide ((k : Int) < (n : Int)) = true := by rw [decide_eq_true_iff]; omega
  have HDC := Lib.hid hdc
  clear hq hn hdl hdc
  go_enter Try.func7, Try.ntmps7
  go_wp2_with fail
  refine (shown_below _).mono ?_
  rintro e w1 ⟨rfl, hb⟩
  have BB := Lib.hid (below_box hb)
  have V1 := ((VarAt.made w #[.int .u8 (t : Int), .int .i64 0, .int .i64 (k : Int), .slice D dn dc] 65).below hb)
  clear hb V1
  go_wp2_with fail
  refine (dskNew_yes n HN1.out HN64.out _).mono ?_
  rintro e w2 ⟨A1, a1, B1, b1, rfl, s0, s1, hb, _⟩
  obtain ⟨x2, hx2⟩ : ∃ x, w2.alloc (.cells #[.int .u64 0, .slice A1 n a1, .slice B1 n b1] 26) = x := ⟨_, rfl⟩
  have hbx : Below w2.heap.size w2 x2 := by rw [← hx2]; exact al_below _ _
  have D1 : Hid (DAt x2 w2.heap.size 0 A1 n a1 B1 n b1 (zerosS n) (zerosS n)) := Lib.hid (by rw [← hx2]; exact DAt.made s0 s1 _)
  have BBn := Lib.hid (BB.out.trans ((hb.trans (hbx.mono hb.size)).mono BB.out.size)); clear BB; have BB := BBn; clear BBn
  clear s0 s1 hb hbx
  obtain ⟨hz, c0, c1, c2, f0, f1, f2⟩ := D1.out.1.three
  have H0 := Lib.hid D1.out.2.1
  have H1 := Lib.hid D1.out.2.2
  go_wp2_with fail
  clear hz c0 c1 c2 f0 f1 f2
  refine (dskRead0_at 0 A1 n a1 B1 n b1 (zerosS n) (zerosS n) k hk Stm.zero (zerosS_get n k hk) _ H0 H1).mono ?_
  rintro e w5 ⟨A5, c5, rfl, _, _, hbn⟩
  have D1n := Lib.hid (D1.out.below hbn); clear D1; have D1 := D1n; clear D1n
  have BBn := Lib.hid (BB.out.trans (hbn.mono BB.out.size)); clear BB; have BB := BBn; clear BBn
  clear hbn H0 H1
  have hD5 := Lib.hid (hD.out.later BB.out)
  have H0 := Lib.hid D1.out.2.1
  have H1 := Lib.hid D1.out.2.2
  have V := Lib.hid D1.out.1
  have hS0 : ∀ w', Below w5.heap.size w5 w' → w'.cell? ⟨w2.heap.size, 0, none⟩ = some (.int .u64 0) := fun w' hb => (V.out.below hb).2.1 0 _ rfl
  have hS1 : ∀ w', Below w5.heap.size w5 w' → w'.cell? ⟨w2.heap.size, 1, none⟩ = some (.slice A1 n a1) := fun w' hb => (V.out.below hb).2.1 1 _ rfl
  have hS2 : ∀ w', Below w5.heap.size w5 w' → w'.cell? ⟨w2.heap.size, 2, none⟩ = some (.slice B1 n b1) := fun w' hb => (V.out.below hb).2.1 2 _ rfl
  have hB0 : Below w5.heap.size w5 w5 := Below.refl _ _
  have CR := fun w h0 h1 h2 => newCrash n a1 b1 HN64.out A1 B1 D dn dc HDC.out f w h0 h1 h2
  go_wp2_with fail
  first | (go_region_held3 (fun w' => Below w5.heap.size w5 w') (first | assumption | (exact Below.drew (by assumption)) | (exact Below.drew (Below.refl _ _)))
    (first
      | (go_at_call 14; (with_reducible refine (newRight n a1 b1 HN1.out HN64.out A1 B1 _ (Lib.hid (StmsAt.later H0.out (by first | assumption | (exact Below.drew (Below.refl _ _)) | (exact Below.drew (by assumption))))) (Lib.hid (StmsAt.later H1.out (by first | assumption | (exact Below.drew (Below.refl _ _)) | (exact Below.drew (by assumption)))))).mono ?_); rintro e w6 ⟨rfl, hbw6⟩; have hBw6 : Below w5.heap.size w5 w6 := below_step hbw6 (by first | assumption | (exact Below.drew (Below.refl _ _)) | (exact Below.drew (by assumption))); skip; clear hbw6)
      | (go_at_call 23; (with_reducible refine (newRow n a1 b1 A1 B1 _).mono ?_); rintro e w7 ⟨rfl, hbw7⟩; have hBw7 : Below w5.heap.size w5 w7 := below_step hbw7 (by first | assumption | (exact Below.drew (Below.refl _ _)) | (exact Below.drew (by assumption))); skip; clear hbw7)
      | (go_at_call 24; (with_reducible refine (CR _ (Lib.hid (StmsAt.later H0.out (by first | assumption | (exact Below.drew (Below.refl _ _)) | (exact Below.drew (by assumption))))) (Lib.hid (StmsAt.later H1.out (by first | assumption | (exact Below.drew (Below.refl _ _)) | (exact Below.drew (by assumption))))) (Lib.hid (AtI.later hD5.out (by first | assumption | (exact Below.drew (Below.refl _ _)) | (exact Below.drew (by assumption)))))).mono ?_); rintro e w8 ⟨A8, a8, B8, b8, rfl, s0, s1, hbw8, _⟩; have hBw8 : Below w5.heap.size w5 w8 := below_step hbw8 (by first | assumption | (exact Below.drew (Below.refl _ _)) | (exact Below.drew (by assumption))); have S0 := Lib.hid s0; have S1 := Lib.hid s1; clear s0 s1; clear hbw8)
      | (go_at_call 13; (with_reducible refine (sameD_at 0 A8 n a8 B8 n b8 A1 a1 B1 b1 (zerosS n) (zerosS n) _ S0 S1 (Lib.hid (StmsAt.later H0.out (by first | assumption | (exact Below.drew (Below.refl _ _)) | (exact Below.drew (by assumption))))) (Lib.hid (StmsAt.later H1.out (by first | assumption | (exact Below.drew (Below.refl _ _)) | (exact Below.drew (by assumption)))))).mono ?_); rintro e w9 ⟨rfl, hbw9⟩; have hBw9 : Below w5.heap.size w5 w9 := below_step hbw9 (by first | assumption | (exact Below.drew (Below.refl _ _)) | (exact Below.drew (by assumption))); skip; clear hbw9))) | fail
  all_goals
    go_wp2_with fail
    go_ret
    exact ⟨rfl, BB.out.trans (Below.mono (by assumption) BB.out.size)⟩

set_option maxRecDepth 100000 in
set_option maxHeartbeats 4000000 in
theorem walkY1L (t q n : Nat) (ht : t < 256) (hq : t % 64 = q) (hn : 1 + q = n) (k : Nat) (hk : k < n) (D : Option Addr) (dn dc : Nat) (f : Nat → Int) (hdc : dn ≤ dc) (hdl : 200 < dn) (w : World) (hD : Hid (AtI w D dn f)) :
    Calls Try.prog 7 #[.agg #[.int .u8 (t : Int), .int .i64 1, .int .i64 (k : Int), .slice D dn dc]] w fun e w' => e = .returned (.bool true) ∧ Below w.heap.size w w' := by
  have hq64 : q < 64 := by omega
  have kr1 : (t : Int).tmod 64 = (q : Int) := by rw [Int.tmod_eq_emod_of_nonneg (by omega)]; omega
  have kr2 : (t : Int) % 64 = (q : Int) := by omega
  have ks : (1 : Int) + (q : Int) = (n : Int) := by omega
  have kd : decide ((200 : Int) < (dn : Int)) = true := by rw [decide_eq_true_iff]; omega
  have hn1 : 1 ≤ n := by omega
  have hn64 : n ≤ 64 := by omega
  have HN1 := Lib.hid hn1
  have HN64 := Lib.hid hn64
  have i0 : decide ((0 : Int) ≤ (k : Int)) = true := by rw [decide_eq_true_iff]; omega
  have i1 : decide ((k : Int) < (n : Int)) = true := by rw [decide_eq_true_iff]; omega
  have HDC := Lib.hid hdc
  clear hq hn hdl hdc
  go_enter Try.func7, Try.ntmps7
  go_wp2_with fail
  refine (shown_below _).mono ?_
  rintro e w1 ⟨rfl, hb⟩
  have BB := Lib.hid (below_box hb)
  have V1 := ((VarAt.made w #[.int .u8 (t : Int), .int .i64 1, .int .i64 (k : Int), .slice D dn dc] 65).below hb)
  clear hb V1
  go_wp2_with fail
  refine (dskNew_yes n HN1.out HN64.out _).mono ?_
  rintro e w2 ⟨A1, a1, B1, b1, rfl, s0, s1, hb, _⟩
  obtain ⟨x2, hx2⟩ : ∃ x, w2.alloc (.cells #[.int .u64 0, .slice A1 n a1, .slice B1 n b1] 26) = x := ⟨_, rfl⟩
  have hbx : Below w2.heap.size w2 x2 := by rw [← hx2]; exact al_below _ _
  have D1 : Hid (DAt x2 w2.heap.size 0 A1 n a1 B1 n b1 (zerosS n) (zerosS n)) := Lib.hid (by rw [← hx2]; exact DAt.made s0 s1 _)
  have BBn := Lib.hid (BB.out.trans ((hb.trans (hbx.mono hb.size)).mono BB.out.size)); clear BB; have BB := BBn; clear BBn
  clear s0 s1 hb hbx
  obtain ⟨hz, c0, c1, c2, f0, f1, f2⟩ := D1.out.1.three
  have H0 := Lib.hid D1.out.2.1
  have H1 := Lib.hid D1.out.2.2
  go_wp2_with fail
  clear hz c0 c1 c2 f0 f1 f2
  refine (dskRead1_at 0 A1 n a1 B1 n b1 (zerosS n) (zerosS n) k hk Stm.zero (zerosS_get n k hk) _ H0 H1).mono ?_
  rintro e w5 ⟨A5, c5, rfl, _, _, hbn⟩
  have D1n := Lib.hid (D1.out.below hbn); clear D1; have D1 := D1n; clear D1n
  have BBn := Lib.hid (BB.out.trans (hbn.mono BB.out.size)); clear BB; have BB := BBn; clear BBn
  clear hbn H0 H1
  go_wp2_with fail
  go_ret
  exact ⟨rfl, BB.out⟩

set_option maxRecDepth 100000 in
set_option maxHeartbeats 4000000 in
theorem walkY1S (t q n : Nat) (ht : t < 256) (hq : t % 64 = q) (hn : 1 + q = n) (k : Nat) (hk : k < n) (D : Option Addr) (dn dc : Nat) (f : Nat → Int) (hdc : dn ≤ dc) (hdl : dn ≤ 200) (w : World) (hD : Hid (AtI w D dn f)) :
    Calls Try.prog 7 #[.agg #[.int .u8 (t : Int), .int .i64 1, .int .i64 (k : Int), .slice D dn dc]] w fun e w' => e = .returned (.bool true) ∧ Below w.heap.size w w' := by
  have hq64 : q < 64 := by omega
  have kr1 : (t : Int).tmod 64 = (q : Int) := by rw [Int.tmod_eq_emod_of_nonneg (by omega)]; omega
  have kr2 : (t : Int) % 64 = (q : Int) := by omega
  have ks : (1 : Int) + (q : Int) = (n : Int) := by omega
  have kd : decide ((200 : Int) < (dn : Int)) = false := by rw [decide_eq_false_iff_not]; omega
  have hn1 : 1 ≤ n := by omega
  have hn64 : n ≤ 64 := by omega
  have HN1 := Lib.hid hn1
  have HN64 := Lib.hid hn64
  have i0 : decide ((0 : Int) ≤ (k : Int)) = true := by rw [decide_eq_true_iff]; omega
  have i1 : decide ((k : Int) < (n : Int)) = true := by rw [decide_eq_true_iff]; omega
  have HDC := Lib.hid hdc
  clear hq hn hdl hdc
  go_enter Try.func7, Try.ntmps7
  go_wp2_with fail
  refine (shown_below _).mono ?_
  rintro e w1 ⟨rfl, hb⟩
  have BB := Lib.hid (below_box hb)
  have V1 := ((VarAt.made w #[.int .u8 (t : Int), .int .i64 1, .int .i64 (k : Int), .slice D dn dc] 65).below hb)
  clear hb V1
  go_wp2_with fail
  refine (dskNew_yes n HN1.out HN64.out _).mono ?_
  rintro e w2 ⟨A1, a1, B1, b1, rfl, s0, s1, hb, _⟩
  obtain ⟨x2, hx2⟩ : ∃ x, w2.alloc (.cells #[.int .u64 0, .slice A1 n a1, .slice B1 n b1] 26) = x := ⟨_, rfl⟩
  have hbx : Below w2.heap.size w2 x2 := by rw [← hx2]; exact al_below _ _
  have D1 : Hid (DAt x2 w2.heap.size 0 A1 n a1 B1 n b1 (zerosS n) (zerosS n)) := Lib.hid (by rw [← hx2]; exact DAt.made s0 s1 _)
  have BBn := Lib.hid (BB.out.trans ((hb.trans (hbx.mono hb.size)).mono BB.out.size)); clear BB; have BB := BBn; clear BBn
  clear s0 s1 hb hbx
  obtain ⟨hz, c0, c1, c2, f0, f1, f2⟩ := D1.out.1.three
  have H0 := Lib.hid D1.out.2.1
  have H1 := Lib.hid D1.out.2.2
  go_wp2_with fail
  clear hz c0 c1 c2 f0 f1 f2
  refine (dskRead1_at 0 A1 n a1 B1 n b1 (zerosS n) (zerosS n) k hk Stm.zero (zerosS_get n k hk) _ H0 H1).mono ?_
  rintro e w5 ⟨A5, c5, rfl, _, _, hbn⟩
  have D1n := Lib.hid (D1.out.below hbn); clear D1; have D1 := D1n; clear D1n
  have BBn := Lib.hid (BB.out.trans (hbn.mono BB.out.size)); clear BB; have BB := BBn; clear BBn
  clear hbn H0 H1
  have hD5 := Lib.hid (hD.out.later BB.out)
  have H0 := Lib.hid D1.out.2.1
  have H1 := Lib.hid D1.out.2.2
  have V := Lib.hid D1.out.1
  have hS0 : ∀ w', Below w5.heap.size w5 w' → w'.cell? ⟨w2.heap.size, 0, none⟩ = some (.int .u64 0) := fun w' hb => (V.out.below hb).2.1 0 _ rfl
  have hS1 : ∀ w', Below w5.heap.size w5 w' → w'.cell? ⟨w2.heap.size, 1, none⟩ = some (.slice A1 n a1) := fun w' hb => (V.out.below hb).2.1 1 _ rfl
  have hS2 : ∀ w', Below w5.heap.size w5 w' → w'.cell? ⟨w2.heap.size, 2, none⟩ = some (.slice B1 n b1) := fun w' hb => (V.out.below hb).2.1 2 _ rfl
  have hB0 : Below w5.heap.size w5 w5 := Below.refl _ _
  have CR := fun w h0 h1 h2 => newCrash n a1 b1 HN64.out A1 B1 D dn dc HDC.out f w h0 h1 h2
  go_wp2_with fail
  first | (go_region_held3 (fun w' => Below w5.heap.size w5 w') (first | assumption | (exact Below.drew (by assumption)) | (exact Below.drew (Below.refl _ _)))
    (first
      | (go_at_call 14; (with_reducible refine (newRight n a1 b1 HN1.out HN64.out A1 B1 _ (Lib.hid (StmsAt.later H0.out (by first | assumption | (exact Below.drew (Below.refl _ _)) | (exact Below.drew (by assumption))))) (Lib.hid (StmsAt.later H1.out (by first | assumption | (exact Below.drew (Below.refl _ _)) | (exact Below.drew (by assumption)))))).mono ?_); rintro e w6 ⟨rfl, hbw6⟩; have hBw6 : Below w5.heap.size w5 w6 := below_step hbw6 (by first | assumption | (exact Below.drew (Below.refl _ _)) | (exact Below.drew (by assumption))); skip; clear hbw6)
      | (go_at_call 23; (with_reducible refine (newRow n a1 b1 A1 B1 _).mono ?_); rintro e w7 ⟨rfl, hbw7⟩; have hBw7 : Below w5.heap.size w5 w7 := below_step hbw7 (by first | assumption | (exact Below.drew (Below.refl _ _)) | (exact Below.drew (by assumption))); skip; clear hbw7)
      | (go_at_call 24; (with_reducible refine (CR _ (Lib.hid (StmsAt.later H0.out (by first | assumption | (exact Below.drew (Below.refl _ _)) | (exact Below.drew (by assumption))))) (Lib.hid (StmsAt.later H1.out (by first | assumption | (exact Below.drew (Below.refl _ _)) | (exact Below.drew (by assumption))))) (Lib.hid (AtI.later hD5.out (by first | assumption | (exact Below.drew (Below.refl _ _)) | (exact Below.drew (by assumption)))))).mono ?_); rintro e w8 ⟨A8, a8, B8, b8, rfl, s0, s1, hbw8, _⟩; have hBw8 : Below w5.heap.size w5 w8 := below_step hbw8 (by first | assumption | (exact Below.drew (Below.refl _ _)) | (exact Below.drew (by assumption))); have S0 := Lib.hid s0; have S1 := Lib.hid s1; clear s0 s1; clear hbw8)
      | (go_at_call 13; (with_reducible refine (sameD_at 0 A8 n a8 B8 n b8 A1 a1 B1 b1 (zerosS n) (zerosS n) _ S0 S1 (Lib.hid (StmsAt.later H0.out (by first | assumption | (exact Below.drew (Below.refl _ _)) | (exact Below.drew (by assumption))))) (Lib.hid (StmsAt.later H1.out (by first | assumption | (exact Below.drew (Below.refl _ _)) | (exact Below.drew (by assumption)))))).mono ?_); rintro e w9 ⟨rfl, hbw9⟩; have hBw9 : Below w5.heap.size w5 w9 := below_step hbw9 (by first | assumption | (exact Below.drew (Below.refl _ _)) | (exact Below.drew (by assumption))); skip; clear hbw9))) | fail
  all_goals
    go_wp2_with fail
    go_ret
    exact ⟨rfl, BB.out.trans (Below.mono (by assumption) BB.out.size)⟩

set_option maxRecDepth 100000 in
set_option maxHeartbeats 4000000 in
theorem walkRL (t q n : Nat) (ht : t < 256) (hq : t % 64 = q) (hn : 1 + q = n) (row : Int) (hrow : rowB row = false) (i : Int) (D : Option Addr) (dn dc : Nat) (f : Nat → Int) (hdc : dn ≤ dc) (hdl : 200 < dn) (w : World) (hD : Hid (AtI w D dn f)) :
    Calls Try.prog 7 #[.agg #[.int .u8 (t : Int), .int .i64 row, .int .i64 i, .slice D dn dc]] w fun e w' => e = .returned (.bool true) ∧ Below w.heap.size w w' := by
  have hq64 : q < 64 := by omega
  have kr1 : (t : Int).tmod 64 = (q : Int) := by rw [Int.tmod_eq_emod_of_nonneg (by omega)]; omega
  have kr2 : (t : Int) % 64 = (q : Int) := by omega
  have ks : (1 : Int) + (q : Int) = (n : Int) := by omega
  have kd : decide ((200 : Int) < (dn : Int)) = true := by rw [decide_eq_true_iff]; omega
  have hn1 : 1 ≤ n := by omega
  have hn64 : n ≤ 64 := by omega
  have HN1 := Lib.hid hn1
  have HN64 := Lib.hid hn64
  have r0 : (row == 0) = false := by rw [beq_eq_false_iff_ne]; rintro rfl; cases hrow
  have r1 : (row == 1) = false := by rw [beq_eq_false_iff_ne]; rintro rfl; cases hrow
  have hno : hasB row i n n = false := by unfold hasB; rw [hrow]; rfl
  clear hrow
  have HDC := Lib.hid hdc
  clear hq hn hdl hdc
  go_enter Try.func7, Try.ntmps7
  go_wp2_with fail
  refine (shown_below _).mono ?_
  rintro e w1 ⟨rfl, hb⟩
  have BB := Lib.hid (below_box hb)
  have V1 := ((VarAt.made w #[.int .u8 (t : Int), .int .i64 row, .int .i64 i, .slice D dn dc] 65).below hb)
  clear hb V1
  go_wp2_with fail
  refine (dskNew_yes n HN1.out HN64.out _).mono ?_
  rintro e w2 ⟨A1, a1, B1, b1, rfl, s0, s1, hb, _⟩
  obtain ⟨x2, hx2⟩ : ∃ x, w2.alloc (.cells #[.int .u64 0, .slice A1 n a1, .slice B1 n b1] 26) = x := ⟨_, rfl⟩
  have hbx : Below w2.heap.size w2 x2 := by rw [← hx2]; exact al_below _ _
  have D1 : Hid (DAt x2 w2.heap.size 0 A1 n a1 B1 n b1 (zerosS n) (zerosS n)) := Lib.hid (by rw [← hx2]; exact DAt.made s0 s1 _)
  have BBn := Lib.hid (BB.out.trans ((hb.trans (hbx.mono hb.size)).mono BB.out.size)); clear BB; have BB := BBn; clear BBn
  clear s0 s1 hb hbx
  obtain ⟨hz, c0, c1, c2, f0, f1, f2⟩ := D1.out.1.three
  have H0 := Lib.hid D1.out.2.1
  have H1 := Lib.hid D1.out.2.2
  go_wp2_with fail
  clear hz c0 c1 c2 f0 f1 f2
  refine (dskRead_no 0 A1 n a1 B1 n b1 row i hno _).mono ?_
  rintro e w5 ⟨A5, c5, rfl, _, _, hbn⟩
  have D1n := Lib.hid (D1.out.below hbn); clear D1; have D1 := D1n; clear D1n
  have BBn := Lib.hid (BB.out.trans (hbn.mono BB.out.size)); clear BB; have BB := BBn; clear BBn
  clear hbn H0 H1
  go_wp2_with fail
  go_ret
  exact ⟨rfl, BB.out⟩

set_option maxRecDepth 100000 in
set_option maxHeartbeats 4000000 in
theorem walkRS (t q n : Nat) (ht : t < 256) (hq : t % 64 = q) (hn : 1 + q = n) (row : Int) (hrow : rowB row = false) (i : Int) (D : Option Addr) (dn dc : Nat) (f : Nat → Int) (hdc : dn ≤ dc) (hdl : dn ≤ 200) (w : World) (hD : Hid (AtI w D dn f)) :
    Calls Try.prog 7 #[.agg #[.int .u8 (t : Int), .int .i64 row, .int .i64 i, .slice D dn dc]] w fun e w' => e = .returned (.bool true) ∧ Below w.heap.size w w' := by
  have hq64 : q < 64 := by omega
  have kr1 : (t : Int).tmod 64 = (q : Int) := by rw [Int.tmod_eq_emod_of_nonneg (by omega)]; omega
  have kr2 : (t : Int) % 64 = (q : Int) := by omega
  have ks : (1 : Int) + (q : Int) = (n : Int) := by omega
  have kd : decide ((200 : Int) < (dn : Int)) = false := by rw [decide_eq_false_iff_not]; omega
  have hn1 : 1 ≤ n := by omega
  have hn64 : n ≤ 64 := by omega
  have HN1 := Lib.hid hn1
  have HN64 := Lib.hid hn64
  have r0 : (row == 0) = false := by rw [beq_eq_false_iff_ne]; rintro rfl; cases hrow
  have r1 : (row == 1) = false := by rw [beq_eq_false_iff_ne]; rintro rfl; cases hrow
  have hno : hasB row i n n = false := by unfold hasB; rw [hrow]; rfl
  clear hrow
  have HDC := Lib.hid hdc
  clear hq hn hdl hdc
  go_enter Try.func7, Try.ntmps7
  go_wp2_with fail
  refine (shown_below _).mono ?_
  rintro e w1 ⟨rfl, hb⟩
  have BB := Lib.hid (below_box hb)
  have V1 := ((VarAt.made w #[.int .u8 (t : Int), .int .i64 row, .int .i64 i, .slice D dn dc] 65).below hb)
  clear hb V1
  go_wp2_with fail
  refine (dskNew_yes n HN1.out HN64.out _).mono ?_
  rintro e w2 ⟨A1, a1, B1, b1, rfl, s0, s1, hb, _⟩
  obtain ⟨x2, hx2⟩ : ∃ x, w2.alloc (.cells #[.int .u64 0, .slice A1 n a1, .slice B1 n b1] 26) = x := ⟨_, rfl⟩
  have hbx : Below w2.heap.size w2 x2 := by rw [← hx2]; exact al_below _ _
  have D1 : Hid (DAt x2 w2.heap.size 0 A1 n a1 B1 n b1 (zerosS n) (zerosS n)) := Lib.hid (by rw [← hx2]; exact DAt.made s0 s1 _)
  have BBn := Lib.hid (BB.out.trans ((hb.trans (hbx.mono hb.size)).mono BB.out.size)); clear BB; have BB := BBn; clear BBn
  clear s0 s1 hb hbx
  obtain ⟨hz, c0, c1, c2, f0, f1, f2⟩ := D1.out.1.three
  have H0 := Lib.hid D1.out.2.1
  have H1 := Lib.hid D1.out.2.2
  go_wp2_with fail
  clear hz c0 c1 c2 f0 f1 f2
  refine (dskRead_no 0 A1 n a1 B1 n b1 row i hno _).mono ?_
  rintro e w5 ⟨A5, c5, rfl, _, _, hbn⟩
  have D1n := Lib.hid (D1.out.below hbn); clear D1; have D1 := D1n; clear D1n
  have BBn := Lib.hid (BB.out.trans (hbn.mono BB.out.size)); clear BB; have BB := BBn; clear BBn
  clear hbn H0 H1
  have hD5 := Lib.hid (hD.out.later BB.out)
  have H0 := Lib.hid D1.out.2.1
  have H1 := Lib.hid D1.out.2.2
  have V := Lib.hid D1.out.1
  have hS0 : ∀ w', Below w5.heap.size w5 w' → w'.cell? ⟨w2.heap.size, 0, none⟩ = some (.int .u64 0) := fun w' hb => (V.out.below hb).2.1 0 _ rfl
  have hS1 : ∀ w', Below w5.heap.size w5 w' → w'.cell? ⟨w2.heap.size, 1, none⟩ = some (.slice A1 n a1) := fun w' hb => (V.out.below hb).2.1 1 _ rfl
  have hS2 : ∀ w', Below w5.heap.size w5 w' → w'.cell? ⟨w2.heap.size, 2, none⟩ = some (.slice B1 n b1) := fun w' hb => (V.out.below hb).2.1 2 _ rfl
  have hB0 : Below w5.heap.size w5 w5 := Below.refl _ _
  have CR := fun w h0 h1 h2 => newCrash n a1 b1 HN64.out A1 B1 D dn dc HDC.out f w h0 h1 h2
  go_wp2_with fail
  first | (go_region_held3 (fun w' => Below w5.heap.size w5 w') (first | assumption | (exact Below.drew (by assumption)) | (exact Below.drew (Below.refl _ _)))
    (first
      | (go_at_call 14; (with_reducible refine (newRight n a1 b1 HN1.out HN64.out A1 B1 _ (Lib.hid (StmsAt.later H0.out (by first | assumption | (exact Below.drew (Below.refl _ _)) | (exact Below.drew (by assumption))))) (Lib.hid (StmsAt.later H1.out (by first | assumption | (exact Below.drew (Below.refl _ _)) | (exact Below.drew (by assumption)))))).mono ?_); rintro e w6 ⟨rfl, hbw6⟩; have hBw6 : Below w5.heap.size w5 w6 := below_step hbw6 (by first | assumption | (exact Below.drew (Below.refl _ _)) | (exact Below.drew (by assumption))); skip; clear hbw6)
      | (go_at_call 23; (with_reducible refine (newRow n a1 b1 A1 B1 _).mono ?_); rintro e w7 ⟨rfl, hbw7⟩; have hBw7 : Below w5.heap.size w5 w7 := below_step hbw7 (by first | assumption | (exact Below.drew (Below.refl _ _)) | (exact Below.drew (by assumption))); skip; clear hbw7)
      | (go_at_call 24; (with_reducible refine (CR _ (Lib.hid (StmsAt.later H0.out (by first | assumption | (exact Below.drew (Below.refl _ _)) | (exact Below.drew (by assumption))))) (Lib.hid (StmsAt.later H1.out (by first | assumption | (exact Below.drew (Below.refl _ _)) | (exact Below.drew (by assumption))))) (Lib.hid (AtI.later hD5.out (by first | assumption | (exact Below.drew (Below.refl _ _)) | (exact Below.drew (by assumption)))))).mono ?_); rintro e w8 ⟨A8, a8, B8, b8, rfl, s0, s1, hbw8, _⟩; have hBw8 : Below w5.heap.size w5 w8 := below_step hbw8 (by first | assumption | (exact Below.drew (Below.refl _ _)) | (exact Below.drew (by assumption))); have S0 := Lib.hid s0; have S1 := Lib.hid s1; clear s0 s1; clear hbw8)
      | (go_at_call 13; (with_reducible refine (sameD_at 0 A8 n a8 B8 n b8 A1 a1 B1 b1 (zerosS n) (zerosS n) _ S0 S1 (Lib.hid (StmsAt.later H0.out (by first | assumption | (exact Below.drew (Below.refl _ _)) | (exact Below.drew (by assumption))))) (Lib.hid (StmsAt.later H1.out (by first | assumption | (exact Below.drew (Below.refl _ _)) | (exact Below.drew (by assumption)))))).mono ?_); rintro e w9 ⟨rfl, hbw9⟩; have hBw9 : Below w5.heap.size w5 w9 := below_step hbw9 (by first | assumption | (exact Below.drew (Below.refl _ _)) | (exact Below.drew (by assumption))); skip; clear hbw9))) | fail
  all_goals
    go_wp2_with fail
    go_ret
    exact ⟨rfl, BB.out.trans (Below.mono (by assumption) BB.out.size)⟩

set_option maxRecDepth 100000 in
set_option maxHeartbeats 4000000 in
theorem walkL0L (t q n : Nat) (ht : t < 256) (hq : t % 64 = q) (hn : 1 + q = n) (i : Int) (hi : i < 0) (D : Option Addr) (dn dc : Nat) (f : Nat → Int) (hdc : dn ≤ dc) (hdl : 200 < dn) (w : World) (hD : Hid (AtI w D dn f)) :
    Calls Try.prog 7 #[.agg #[.int .u8 (t : Int), .int .i64 0, .int .i64 i, .slice D dn dc]] w fun e w' => e = .returned (.bool true) ∧ Below w.heap.size w w' := by
  have hq64 : q < 64 := by omega
  have kr1 : (t : Int).tmod 64 = (q : Int) := by rw [Int.tmod_eq_emod_of_nonneg (by omega)]; omega
  have kr2 : (t : Int) % 64 = (q : Int) := by omega
  have ks : (1 : Int) + (q : Int) = (n : Int) := by omega
  have kd : decide ((200 : Int) < (dn : Int)) = true := by rw [decide_eq_true_iff]; omega
  have hn1 : 1 ≤ n := by omega
  have hn64 : n ≤ 64 := by omega
  have HN1 := Lib.hid hn1
  have HN64 := Lib.hid hn64
  have i0 : decide ((0 : Int) ≤ i) = false := by rw [decide_eq_false_iff_not]; omega
  have hno : hasB 0 i n n = false := by unfold hasB isB; rw [show (if (0 : Int) = 0 then n else n) = n by split <;> rfl]; rw [i0]; simp
  clear hi
  have HDC := Lib.hid hdc
  clear hq hn hdl hdc
  go_enter Try.func7, Try.ntmps7
  go_wp2_with fail
  refine (shown_below _).mono ?_
  rintro e w1 ⟨rfl, hb⟩
  have BB := Lib.hid (below_box hb)
  have V1 := ((VarAt.made w #[.int .u8 (t : Int), .int .i64 0, .int .i64 i, .slice D dn dc] 65).below hb)
  clear hb V1
  go_wp2_with fail
  refine (dskNew_yes n HN1.out HN64.out _).mono ?_
  rintro e w2 ⟨A1, a1, B1, b1, rfl, s0, s1, hb, _⟩
  obtain ⟨x2, hx2⟩ : ∃ x, w2.alloc (.cells #[.int .u64 0, .slice A1 n a1, .slice B1 n b1] 26) = x := ⟨_, rfl⟩
  have hbx : Below w2.heap.size w2 x2 := by rw [← hx2]; exact al_below _ _
  have D1 : Hid (DAt x2 w2.heap.size 0 A1 n a1 B1 n b1 (zerosS n) (zerosS n)) := Lib.hid (by rw [← hx2]; exact DAt.made s0 s1 _)
  have BBn := Lib.hid (BB.out.trans ((hb.trans (hbx.mono hb.size)).mono BB.out.size)); clear BB; have BB := BBn; clear BBn
  clear s0 s1 hb hbx
  obtain ⟨hz, c0, c1, c2, f0, f1, f2⟩ := D1.out.1.three
  have H0 := Lib.hid D1.out.2.1
  have H1 := Lib.hid D1.out.2.2
  go_wp2_with fail
  clear hz c0 c1 c2 f0 f1 f2
  refine (dskRead_no 0 A1 n a1 B1 n b1 0 i hno _).mono ?_
  rintro e w5 ⟨A5, c5, rfl, _, _, hbn⟩
  have D1n := Lib.hid (D1.out.below hbn); clear D1; have D1 := D1n; clear D1n
  have BBn := Lib.hid (BB.out.trans (hbn.mono BB.out.size)); clear BB; have BB := BBn; clear BBn
  clear hbn H0 H1
  go_wp2_with fail
  go_ret
  exact ⟨rfl, BB.out⟩

set_option maxRecDepth 100000 in
set_option maxHeartbeats 4000000 in
theorem walkL0S (t q n : Nat) (ht : t < 256) (hq : t % 64 = q) (hn : 1 + q = n) (i : Int) (hi : i < 0) (D : Option Addr) (dn dc : Nat) (f : Nat → Int) (hdc : dn ≤ dc) (hdl : dn ≤ 200) (w : World) (hD : Hid (AtI w D dn f)) :
    Calls Try.prog 7 #[.agg #[.int .u8 (t : Int), .int .i64 0, .int .i64 i, .slice D dn dc]] w fun e w' => e = .returned (.bool true) ∧ Below w.heap.size w w' := by
  have hq64 : q < 64 := by omega
  have kr1 : (t : Int).tmod 64 = (q : Int) := by rw [Int.tmod_eq_emod_of_nonneg (by omega)]; omega
  have kr2 : (t : Int) % 64 = (q : Int) := by omega
  have ks : (1 : Int) + (q : Int) = (n : Int) := by omega
  have kd : decide ((200 : Int) < (dn : Int)) = false := by rw [decide_eq_false_iff_not]; omega
  have hn1 : 1 ≤ n := by omega
  have hn64 : n ≤ 64 := by omega
  have HN1 := Lib.hid hn1
  have HN64 := Lib.hid hn64
  have i0 : decide ((0 : Int) ≤ i) = false := by rw [decide_eq_false_iff_not]; omega
  have hno : hasB 0 i n n = false := by unfold hasB isB; rw [show (if (0 : Int) = 0 then n else n) = n by split <;> rfl]; rw [i0]; simp
  clear hi
  have HDC := Lib.hid hdc
  clear hq hn hdl hdc
  go_enter Try.func7, Try.ntmps7
  go_wp2_with fail
  refine (shown_below _).mono ?_
  rintro e w1 ⟨rfl, hb⟩
  have BB := Lib.hid (below_box hb)
  have V1 := ((VarAt.made w #[.int .u8 (t : Int), .int .i64 0, .int .i64 i, .slice D dn dc] 65).below hb)
  clear hb V1
  go_wp2_with fail
  refine (dskNew_yes n HN1.out HN64.out _).mono ?_
  rintro e w2 ⟨A1, a1, B1, b1, rfl, s0, s1, hb, _⟩
  obtain ⟨x2, hx2⟩ : ∃ x, w2.alloc (.cells #[.int .u64 0, .slice A1 n a1, .slice B1 n b1] 26) = x := ⟨_, rfl⟩
  have hbx : Below w2.heap.size w2 x2 := by rw [← hx2]; exact al_below _ _
  have D1 : Hid (DAt x2 w2.heap.size 0 A1 n a1 B1 n b1 (zerosS n) (zerosS n)) := Lib.hid (by rw [← hx2]; exact DAt.made s0 s1 _)
  have BBn := Lib.hid (BB.out.trans ((hb.trans (hbx.mono hb.size)).mono BB.out.size)); clear BB; have BB := BBn; clear BBn
  clear s0 s1 hb hbx
  obtain ⟨hz, c0, c1, c2, f0, f1, f2⟩ := D1.out.1.three
  have H0 := Lib.hid D1.out.2.1
  have H1 := Lib.hid D1.out.2.2
  go_wp2_with fail
  clear hz c0 c1 c2 f0 f1 f2
  refine (dskRead_no 0 A1 n a1 B1 n b1 0 i hno _).mono ?_
  rintro e w5 ⟨A5, c5, rfl, _, _, hbn⟩
  have D1n := Lib.hid (D1.out.below hbn); clear D1; have D1 := D1n; clear D1n
  have BBn := Lib.hid (BB.out.trans (hbn.mono BB.out.size)); clear BB; have BB := BBn; clear BBn
  clear hbn H0 H1
  have hD5 := Lib.hid (hD.out.later BB.out)
  have H0 := Lib.hid D1.out.2.1
  have H1 := Lib.hid D1.out.2.2
  have V := Lib.hid D1.out.1
  have hS0 : ∀ w', Below w5.heap.size w5 w' → w'.cell? ⟨w2.heap.size, 0, none⟩ = some (.int .u64 0) := fun w' hb => (V.out.below hb).2.1 0 _ rfl
  have hS1 : ∀ w', Below w5.heap.size w5 w' → w'.cell? ⟨w2.heap.size, 1, none⟩ = some (.slice A1 n a1) := fun w' hb => (V.out.below hb).2.1 1 _ rfl
  have hS2 : ∀ w', Below w5.heap.size w5 w' → w'.cell? ⟨w2.heap.size, 2, none⟩ = some (.slice B1 n b1) := fun w' hb => (V.out.below hb).2.1 2 _ rfl
  have hB0 : Below w5.heap.size w5 w5 := Below.refl _ _
  have CR := fun w h0 h1 h2 => newCrash n a1 b1 HN64.out A1 B1 D dn dc HDC.out f w h0 h1 h2
  go_wp2_with fail
  first | (go_region_held3 (fun w' => Below w5.heap.size w5 w') (first | assumption | (exact Below.drew (by assumption)) | (exact Below.drew (Below.refl _ _)))
    (first
      | (go_at_call 14; (with_reducible refine (newRight n a1 b1 HN1.out HN64.out A1 B1 _ (Lib.hid (StmsAt.later H0.out (by first | assumption | (exact Below.drew (Below.refl _ _)) | (exact Below.drew (by assumption))))) (Lib.hid (StmsAt.later H1.out (by first | assumption | (exact Below.drew (Below.refl _ _)) | (exact Below.drew (by assumption)))))).mono ?_); rintro e w6 ⟨rfl, hbw6⟩; have hBw6 : Below w5.heap.size w5 w6 := below_step hbw6 (by first | assumption | (exact Below.drew (Below.refl _ _)) | (exact Below.drew (by assumption))); skip; clear hbw6)
      | (go_at_call 23; (with_reducible refine (newRow n a1 b1 A1 B1 _).mono ?_); rintro e w7 ⟨rfl, hbw7⟩; have hBw7 : Below w5.heap.size w5 w7 := below_step hbw7 (by first | assumption | (exact Below.drew (Below.refl _ _)) | (exact Below.drew (by assumption))); skip; clear hbw7)
      | (go_at_call 24; (with_reducible refine (CR _ (Lib.hid (StmsAt.later H0.out (by first | assumption | (exact Below.drew (Below.refl _ _)) | (exact Below.drew (by assumption))))) (Lib.hid (StmsAt.later H1.out (by first | assumption | (exact Below.drew (Below.refl _ _)) | (exact Below.drew (by assumption))))) (Lib.hid (AtI.later hD5.out (by first | assumption | (exact Below.drew (Below.refl _ _)) | (exact Below.drew (by assumption)))))).mono ?_); rintro e w8 ⟨A8, a8, B8, b8, rfl, s0, s1, hbw8, _⟩; have hBw8 : Below w5.heap.size w5 w8 := below_step hbw8 (by first | assumption | (exact Below.drew (Below.refl _ _)) | (exact Below.drew (by assumption))); have S0 := Lib.hid s0; have S1 := Lib.hid s1; clear s0 s1; clear hbw8)
      | (go_at_call 13; (with_reducible refine (sameD_at 0 A8 n a8 B8 n b8 A1 a1 B1 b1 (zerosS n) (zerosS n) _ S0 S1 (Lib.hid (StmsAt.later H0.out (by first | assumption | (exact Below.drew (Below.refl _ _)) | (exact Below.drew (by assumption))))) (Lib.hid (StmsAt.later H1.out (by first | assumption | (exact Below.drew (Below.refl _ _)) | (exact Below.drew (by assumption)))))).mono ?_); rintro e w9 ⟨rfl, hbw9⟩; have hBw9 : Below w5.heap.size w5 w9 := below_step hbw9 (by first | assumption | (exact Below.drew (Below.refl _ _)) | (exact Below.drew (by assumption))); skip; clear hbw9))) | fail
  all_goals
    go_wp2_with fail
    go_ret
    exact ⟨rfl, BB.out.trans (Below.mono (by assumption) BB.out.size)⟩

set_option maxRecDepth 100000 in
set_option maxHeartbeats 4000000 in
theorem walkG0L (t q n : Nat) (ht : t < 256) (hq : t % 64 = q) (hn : 1 + q = n) (i : Int) (hi : (n : Int) ≤ i) (D : Option Addr) (dn dc : Nat) (f : Nat → Int) (hdc : dn ≤ dc) (hdl : 200 < dn) (w : World) (hD : Hid (AtI w D dn f)) :
    Calls Try.prog 7 #[.agg #[.int .u8 (t : Int), .int .i64 0, .int .i64 i, .slice D dn dc]] w fun e w' => e = .returned (.bool true) ∧ Below w.heap.size w w' := by
  have hq64 : q < 64 := by omega
  have kr1 : (t : Int).tmod 64 = (q : Int) := by rw [Int.tmod_eq_emod_of_nonneg (by omega)]; omega
  have kr2 : (t : Int) % 64 = (q : Int) := by omega
  have ks : (1 : Int) + (q : Int) = (n : Int) := by omega
  have kd : decide ((200 : Int) < (dn : Int)) = true := by rw [decide_eq_true_iff]; omega
  have hn1 : 1 ≤ n := by omega
  have hn64 : n ≤ 64 := by omega
  have HN1 := Lib.hid hn1
  have HN64 := Lib.hid hn64
  have i0 : decide ((0 : Int) ≤ i) = true := by rw [decide_eq_true_iff]; omega
  have i1 : decide (i < (n : Int)) = false := by rw [decide_eq_false_iff_not]; omega
  have hno : hasB 0 i n n = false := by unfold hasB isB; rw [show (if (0 : Int) = 0 then n else n) = n by split <;> rfl]; rw [i1]; simp
  clear hi
  have HDC := Lib.hid hdc
  clear hq hn hdl hdc
  go_enter Try.func7, Try.ntmps7
  go_wp2_with fail
  refine (shown_below _).mono ?_
  rintro e w1 ⟨rfl, hb⟩
  have BB := Lib.hid (below_box hb)
  have V1 := ((VarAt.made w #[.int .u8 (t : Int), .int .i64 0, .int .i64 i, .slice D dn dc] 65).below hb)
  clear hb V1
  go_wp2_with fail
  refine (dskNew_yes n HN1.out HN64.out _).mono ?_
  rintro e w2 ⟨A1, a1, B1, b1, rfl, s0, s1, hb, _⟩
  obtain ⟨x2, hx2⟩ : ∃ x, w2.alloc (.cells #[.int .u64 0, .slice A1 n a1, .slice B1 n b1] 26) = x := ⟨_, rfl⟩
  have hbx : Below w2.heap.size w2 x2 := by rw [← hx2]; exact al_below _ _
  have D1 : Hid (DAt x2 w2.heap.size 0 A1 n a1 B1 n b1 (zerosS n) (zerosS n)) := Lib.hid (by rw [← hx2]; exact DAt.made s0 s1 _)
  have BBn := Lib.hid (BB.out.trans ((hb.trans (hbx.mono hb.size)).mono BB.out.size)); clear BB; have BB := BBn; clear BBn
  clear s0 s1 hb hbx
  obtain ⟨hz, c0, c1, c2, f0, f1, f2⟩ := D1.out.1.three
  have H0 := Lib.hid D1.out.2.1
  have H1 := Lib.hid D1.out.2.2
  go_wp2_with fail
  clear hz c0 c1 c2 f0 f1 f2
  refine (dskRead_no 0 A1 n a1 B1 n b1 0 i hno _).mono ?_
  rintro e w5 ⟨A5, c5, rfl, _, _, hbn⟩
  have D1n := Lib.hid (D1.out.below hbn); clear D1; have D1 := D1n; clear D1n
  have BBn := Lib.hid (BB.out.trans (hbn.mono BB.out.size)); clear BB; have BB := BBn; clear BBn
  clear hbn H0 H1
  go_wp2_with fail
  go_ret
  exact ⟨rfl, BB.out⟩

set_option maxRecDepth 100000 in
set_option maxHeartbeats 4000000 in
theorem walkG0S (t q n : Nat) (ht : t < 256) (hq : t % 64 = q) (hn : 1 + q = n) (i : Int) (hi : (n : Int) ≤ i) (D : Option Addr) (dn dc : Nat) (f : Nat → Int) (hdc : dn ≤ dc) (hdl : dn ≤ 200) (w : World) (hD : Hid (AtI w D dn f)) :
    Calls Try.prog 7 #[.agg #[.int .u8 (t : Int), .int .i64 0, .int .i64 i, .slice D dn dc]] w fun e w' => e = .returned (.bool true) ∧ Below w.heap.size w w' := by
  have hq64 : q < 64 := by omega
  have kr1 : (t : Int).tmod 64 = (q : Int) := by rw [Int.tmod_eq_emod_of_nonneg (by omega)]; omega
  have kr2 : (t : Int) % 64 = (q : Int) := by omega
  have ks : (1 : Int) + (q : Int) = (n : Int) := by omega
  have kd : decide ((200 : Int) < (dn : Int)) = false := by rw [decide_eq_false_iff_not]; omega
  have hn1 : 1 ≤ n := by omega
  have hn64 : n ≤ 64 := by omega
  have HN1 := Lib.hid hn1
  have HN64 := Lib.hid hn64
  have i0 : decide ((0 : Int) ≤ i) = true := by rw [decide_eq_true_iff]; omega
  have i1 : decide (i < (n : Int)) = false := by rw [decide_eq_false_iff_not]; omega
  have hno : hasB 0 i n n = false := by unfold hasB isB; rw [show (if (0 : Int) = 0 then n else n) = n by split <;> rfl]; rw [i1]; simp
  clear hi
  have HDC := Lib.hid hdc
  clear hq hn hdl hdc
  go_enter Try.func7, Try.ntmps7
  go_wp2_with fail
  refine (shown_below _).mono ?_
  rintro e w1 ⟨rfl, hb⟩
  have BB := Lib.hid (below_box hb)
  have V1 := ((VarAt.made w #[.int .u8 (t : Int), .int .i64 0, .int .i64 i, .slice D dn dc] 65).below hb)
  clear hb V1
  go_wp2_with fail
  refine (dskNew_yes n HN1.out HN64.out _).mono ?_
  rintro e w2 ⟨A1, a1, B1, b1, rfl, s0, s1, hb, _⟩
  obtain ⟨x2, hx2⟩ : ∃ x, w2.alloc (.cells #[.int .u64 0, .slice A1 n a1, .slice B1 n b1] 26) = x := ⟨_, rfl⟩
  have hbx : Below w2.heap.size w2 x2 := by rw [← hx2]; exact al_below _ _
  have D1 : Hid (DAt x2 w2.heap.size 0 A1 n a1 B1 n b1 (zerosS n) (zerosS n)) := Lib.hid (by rw [← hx2]; exact DAt.made s0 s1 _)
  have BBn := Lib.hid (BB.out.trans ((hb.trans (hbx.mono hb.size)).mono BB.out.size)); clear BB; have BB := BBn; clear BBn
  clear s0 s1 hb hbx
  obtain ⟨hz, c0, c1, c2, f0, f1, f2⟩ := D1.out.1.three
  have H0 := Lib.hid D1.out.2.1
  have H1 := Lib.hid D1.out.2.2
  go_wp2_with fail
  clear hz c0 c1 c2 f0 f1 f2
  refine (dskRead_no 0 A1 n a1 B1 n b1 0 i hno _).mono ?_
  rintro e w5 ⟨A5, c5, rfl, _, _, hbn⟩
  have D1n := Lib.hid (D1.out.below hbn); clear D1; have D1 := D1n; clear D1n
  have BBn := Lib.hid (BB.out.trans (hbn.mono BB.out.size)); clear BB; have BB := BBn; clear BBn
  clear hbn H0 H1
  have hD5 := Lib.hid (hD.out.later BB.out)
  have H0 := Lib.hid D1.out.2.1
  have H1 := Lib.hid D1.out.2.2
  have V := Lib.hid D1.out.1
  have hS0 : ∀ w', Below w5.heap.size w5 w' → w'.cell? ⟨w2.heap.size, 0, none⟩ = some (.int .u64 0) := fun w' hb => (V.out.below hb).2.1 0 _ rfl
  have hS1 : ∀ w', Below w5.heap.size w5 w' → w'.cell? ⟨w2.heap.size, 1, none⟩ = some (.slice A1 n a1) := fun w' hb => (V.out.below hb).2.1 1 _ rfl
  have hS2 : ∀ w', Below w5.heap.size w5 w' → w'.cell? ⟨w2.heap.size, 2, none⟩ = some (.slice B1 n b1) := fun w' hb => (V.out.below hb).2.1 2 _ rfl
  have hB0 : Below w5.heap.size w5 w5 := Below.refl _ _
  have CR := fun w h0 h1 h2 => newCrash n a1 b1 HN64.out A1 B1 D dn dc HDC.out f w h0 h1 h2
  go_wp2_with fail
  first | (go_region_held3 (fun w' => Below w5.heap.size w5 w') (first | assumption | (exact Below.drew (by assumption)) | (exact Below.drew (Below.refl _ _)))
    (first
      | (go_at_call 14; (with_reducible refine (newRight n a1 b1 HN1.out HN64.out A1 B1 _ (Lib.hid (StmsAt.later H0.out (by first | assumption | (exact Below.drew (Below.refl _ _)) | (exact Below.drew (by assumption))))) (Lib.hid (StmsAt.later H1.out (by first | assumption | (exact Below.drew (Below.refl _ _)) | (exact Below.drew (by assumption)))))).mono ?_); rintro e w6 ⟨rfl, hbw6⟩; have hBw6 : Below w5.heap.size w5 w6 := below_step hbw6 (by first | assumption | (exact Below.drew (Below.refl _ _)) | (exact Below.drew (by assumption))); skip; clear hbw6)
      | (go_at_call 23; (with_reducible refine (newRow n a1 b1 A1 B1 _).mono ?_); rintro e w7 ⟨rfl, hbw7⟩; have hBw7 : Below w5.heap.size w5 w7 := below_step hbw7 (by first | assumption | (exact Below.drew (Below.refl _ _)) | (exact Below.drew (by assumption))); skip; clear hbw7)
      | (go_at_call 24; (with_reducible refine (CR _ (Lib.hid (StmsAt.later H0.out (by first | assumption | (exact Below.drew (Below.refl _ _)) | (exact Below.drew (by assumption))))) (Lib.hid (StmsAt.later H1.out (by first | assumption | (exact Below.drew (Below.refl _ _)) | (exact Below.drew (by assumption))))) (Lib.hid (AtI.later hD5.out (by first | assumption | (exact Below.drew (Below.refl _ _)) | (exact Below.drew (by assumption)))))).mono ?_); rintro e w8 ⟨A8, a8, B8, b8, rfl, s0, s1, hbw8, _⟩; have hBw8 : Below w5.heap.size w5 w8 := below_step hbw8 (by first | assumption | (exact Below.drew (Below.refl _ _)) | (exact Below.drew (by assumption))); have S0 := Lib.hid s0; have S1 := Lib.hid s1; clear s0 s1; clear hbw8)
      | (go_at_call 13; (with_reducible refine (sameD_at 0 A8 n a8 B8 n b8 A1 a1 B1 b1 (zerosS n) (zerosS n) _ S0 S1 (Lib.hid (StmsAt.later H0.out (by first | assumption | (exact Below.drew (Below.refl _ _)) | (exact Below.drew (by assumption))))) (Lib.hid (StmsAt.later H1.out (by first | assumption | (exact Below.drew (Below.refl _ _)) | (exact Below.drew (by assumption)))))).mono ?_); rintro e w9 ⟨rfl, hbw9⟩; have hBw9 : Below w5.heap.size w5 w9 := below_step hbw9 (by first | assumption | (exact Below.drew (Below.refl _ _)) | (exact Below.drew (by assumption))); skip; clear hbw9))) | fail
  all_goals
    go_wp2_with fail
    go_ret
    exact ⟨rfl, BB.out.trans (Below.mono (by assumption) BB.out.size)⟩

set_option maxRecDepth 100000 in
set_option maxHeartbeats 4000000 in
theorem walkL1L (t q n : Nat) (ht : t < 256) (hq : t % 64 = q) (hn : 1 + q = n) (i : Int) (hi : i < 0) (D : Option Addr) (dn dc : Nat) (f : Nat → Int) (hdc : dn ≤ dc) (hdl : 200 < dn) (w : World) (hD : Hid (AtI w D dn f)) :
    Calls Try.prog 7 #[.agg #[.int .u8 (t : Int), .int .i64 1, .int .i64 i, .slice D dn dc]] w fun e w' => e = .returned (.bool true) ∧ Below w.heap.size w w' := by
  have hq64 : q < 64 := by omega
  have kr1 : (t : Int).tmod 64 = (q : Int) := by rw [Int.tmod_eq_emod_of_nonneg (by omega)]; omega
  have kr2 : (t : Int) % 64 = (q : Int) := by omega
  have ks : (1 : Int) + (q : Int) = (n : Int) := by omega
  have kd : decide ((200 : Int) < (dn : Int)) = true := by rw [decide_eq_true_iff]; omega
  have hn1 : 1 ≤ n := by omega
  have hn64 : n ≤ 64 := by omega
  have HN1 := Lib.hid hn1
  have HN64 := Lib.hid hn64
  have i0 : decide ((0 : Int) ≤ i) = false := by rw [decide_eq_false_iff_not]; omega
  have hno : hasB 1 i n n = false := by unfold hasB isB; rw [show (if (1 : Int) = 0 then n else n) = n by split <;> rfl]; rw [i0]; simp
  clear hi
  have HDC := Lib.hid hdc
  clear hq hn hdl hdc
  go_enter Try.func7, Try.ntmps7
  go_wp2_with fail
  refine (shown_below _).mono ?_
  rintro e w1 ⟨rfl, hb⟩
  have BB := Lib.hid (below_box hb)
  have V1 := ((VarAt.made w #[.int .u8 (t : Int), .int .i64 1, .int .i64 i, .slice D dn dc] 65).below hb)
  clear hb V1
  go_wp2_with fail
  refine (dskNew_yes n HN1.out HN64.out _).mono ?_
  rintro e w2 ⟨A1, a1, B1, b1, rfl, s0, s1, hb, _⟩
  obtain ⟨x2, hx2⟩ : ∃ x, w2.alloc (.cells #[.int .u64 0, .slice A1 n a1, .slice B1 n b1] 26) = x := ⟨_, rfl⟩
  have hbx : Below w2.heap.size w2 x2 := by rw [← hx2]; exact al_below _ _
  have D1 : Hid (DAt x2 w2.heap.size 0 A1 n a1 B1 n b1 (zerosS n) (zerosS n)) := Lib.hid (by rw [← hx2]; exact DAt.made s0 s1 _)
  have BBn := Lib.hid (BB.out.trans ((hb.trans (hbx.mono hb.size)).mono BB.out.size)); clear BB; have BB := BBn; clear BBn
  clear s0 s1 hb hbx
  obtain ⟨hz, c0, c1, c2, f0, f1, f2⟩ := D1.out.1.three
  have H0 := Lib.hid D1.out.2.1
  have H1 := Lib.hid D1.out.2.2
  go_wp2_with fail
  clear hz c0 c1 c2 f0 f1 f2
  refine (dskRead_no 0 A1 n a1 B1 n b1 1 i hno _).mono ?_
  rintro e w5 ⟨A5, c5, rfl, _, _, hbn⟩
  have D1n := Lib.hid (D1.out.below hbn); clear D1; have D1 := D1n; clear D1n
  have BBn := Lib.hid (BB.out.trans (hbn.mono BB.out.size)); clear BB; have BB := BBn; clear BBn
  clear hbn H0 H1
  go_wp2_with fail
  go_ret
  exact ⟨rfl, BB.out⟩

set_option maxRecDepth 100000 in
set_option maxHeartbeats 4000000 in
theorem walkL1S (t q n : Nat) (ht : t < 256) (hq : t % 64 = q) (hn : 1 + q = n) (i : Int) (hi : i < 0) (D : Option Addr) (dn dc : Nat) (f : Nat → Int) (hdc : dn ≤ dc) (hdl : dn ≤ 200) (w : World) (hD : Hid (AtI w D dn f)) :
    Calls Try.prog 7 #[.agg #[.int .u8 (t : Int), .int .i64 1, .int .i64 i, .slice D dn dc]] w fun e w' => e = .returned (.bool true) ∧ Below w.heap.size w w' := by
  have hq64 : q < 64 := by omega
  have kr1 : (t : Int).tmod 64 = (q : Int) := by rw [Int.tmod_eq_emod_of_nonneg (by omega)]; omega
  have kr2 : (t : Int) % 64 = (q : Int) := by omega
  have ks : (1 : Int) + (q : Int) = (n : Int) := by omega
  have kd : decide ((200 : Int) < (dn : Int)) = false := by rw [decide_eq_false_iff_not]; omega
  have hn1 : 1 ≤ n := by omega
  have hn64 : n ≤ 64 := by omega
  have HN1 := Lib.hid hn1
  have HN64 := Lib.hid hn64
  have i0 : decide ((0 : Int) ≤ i) = false := by rw [decide_eq_false_iff_not]; omega
  have hno : hasB 1 i n n = false := by unfold hasB isB; rw [show (if (1 : Int) = 0 then n else n) = n by split <;> rfl]; rw [i0]; simp
  clear hi
  have HDC := Lib.hid hdc
  clear hq hn hdl hdc
  go_enter Try.func7, Try.ntmps7
  go_wp2_with fail
  refine (shown_below _).mono ?_
  rintro e w1 ⟨rfl, hb⟩
  have BB := Lib.hid (below_box hb)
  have V1 := ((VarAt.made w #[.int .u8 (t : Int), .int .i64 1, .int .i64 i, .slice D dn dc] 65).below hb)
  clear hb V1
  go_wp2_with fail
  refine (dskNew_yes n HN1.out HN64.out _).mono ?_
  rintro e w2 ⟨A1, a1, B1, b1, rfl, s0, s1, hb, _⟩
  obtain ⟨x2, hx2⟩ : ∃ x, w2.alloc (.cells #[.int .u64 0, .slice A1 n a1, .slice B1 n b1] 26) = x := ⟨_, rfl⟩
  have hbx : Below w2.heap.size w2 x2 := by rw [← hx2]; exact al_below _ _
  have D1 : Hid (DAt x2 w2.heap.size 0 A1 n a1 B1 n b1 (zerosS n) (zerosS n)) := Lib.hid (by rw [← hx2]; exact DAt.made s0 s1 _)
  have BBn := Lib.hid (BB.out.trans ((hb.trans (hbx.mono hb.size)).mono BB.out.size)); clear BB; have BB := BBn; clear BBn
  clear s0 s1 hb hbx
  obtain ⟨hz, c0, c1, c2, f0, f1, f2⟩ := D1.out.1.three
  have H0 := Lib.hid D1.out.2.1
  have H1 := Lib.hid D1.out.2.2
  go_wp2_with fail
  clear hz c0 c1 c2 f0 f1 f2
  refine (dskRead_no 0 A1 n a1 B1 n b1 1 i hno _).mono ?_
  rintro e w5 ⟨A5, c5, rfl, _, _, hbn⟩
  have D1n := Lib.hid (D1.out.below hbn); clear D1; have D1 := D1n; clear D1n
  have BBn := Lib.hid (BB.out.trans (hbn.mono BB.out.size)); clear BB; have BB := BBn; clear BBn
  clear hbn H0 H1
  have hD5 := Lib.hid (hD.out.later BB.out)
  have H0 := Lib.hid D1.out.2.1
  have H1 := Lib.hid D1.out.2.2
  have V := Lib.hid D1.out.1
  have hS0 : ∀ w', Below w5.heap.size w5 w' → w'.cell? ⟨w2.heap.size, 0, none⟩ = some (.int .u64 0) := fun w' hb => (V.out.below hb).2.1 0 _ rfl
  have hS1 : ∀ w', Below w5.heap.size w5 w' → w'.cell? ⟨w2.heap.size, 1, none⟩ = some (.slice A1 n a1) := fun w' hb => (V.out.below hb).2.1 1 _ rfl
  have hS2 : ∀ w', Below w5.heap.size w5 w' → w'.cell? ⟨w2.heap.size, 2, none⟩ = some (.slice B1 n b1) := fun w' hb => (V.out.below hb).2.1 2 _ rfl
  have hB0 : Below w5.heap.size w5 w5 := Below.refl _ _
  have CR := fun w h0 h1 h2 => newCrash n a1 b1 HN64.out A1 B1 D dn dc HDC.out f w h0 h1 h2
  go_wp2_with fail
  first | (go_region_held3 (fun w' => Below w5.heap.size w5 w') (first | assumption | (exact Below.drew (by assumption)) | (exact Below.drew (Below.refl _ _)))
    (first
      | (go_at_call 14; (with_reducible refine (newRight n a1 b1 HN1.out HN64.out A1 B1 _ (Lib.hid (StmsAt.later H0.out (by first | assumption | (exact Below.drew (Below.refl _ _)) | (exact Below.drew (by assumption))))) (Lib.hid (StmsAt.later H1.out (by first | assumption | (exact Below.drew (Below.refl _ _)) | (exact Below.drew (by assumption)))))).mono ?_); rintro e w6 ⟨rfl, hbw6⟩; have hBw6 : Below w5.heap.size w5 w6 := below_step hbw6 (by first | assumption | (exact Below.drew (Below.refl _ _)) | (exact Below.drew (by assumption))); skip; clear hbw6)
      | (go_at_call 23; (with_reducible refine (newRow n a1 b1 A1 B1 _).mono ?_); rintro e w7 ⟨rfl, hbw7⟩; have hBw7 : Below w5.heap.size w5 w7 := below_step hbw7 (by first | assumption | (exact Below.drew (Below.refl _ _)) | (exact Below.drew (by assumption))); skip; clear hbw7)
      | (go_at_call 24; (with_reducible refine (CR _ (Lib.hid (StmsAt.later H0.out (by first | assumption | (exact Below.drew (Below.refl _ _)) | (exact Below.drew (by assumption))))) (Lib.hid (StmsAt.later H1.out (by first | assumption | (exact Below.drew (Below.refl _ _)) | (exact Below.drew (by assumption))))) (Lib.hid (AtI.later hD5.out (by first | assumption | (exact Below.drew (Below.refl _ _)) | (exact Below.drew (by assumption)))))).mono ?_); rintro e w8 ⟨A8, a8, B8, b8, rfl, s0, s1, hbw8, _⟩; have hBw8 : Below w5.heap.size w5 w8 := below_step hbw8 (by first | assumption | (exact Below.drew (Below.refl _ _)) | (exact Below.drew (by assumption))); have S0 := Lib.hid s0; have S1 := Lib.hid s1; clear s0 s1; clear hbw8)
      | (go_at_call 13; (with_reducible refine (sameD_at 0 A8 n a8 B8 n b8 A1 a1 B1 b1 (zerosS n) (zerosS n) _ S0 S1 (Lib.hid (StmsAt.later H0.out (by first | assumption | (exact Below.drew (Below.refl _ _)) | (exact Below.drew (by assumption))))) (Lib.hid (StmsAt.later H1.out (by first | assumption | (exact Below.drew (Below.refl _ _)) | (exact Below.drew (by assumption)))))).mono ?_); rintro e w9 ⟨rfl, hbw9⟩; have hBw9 : Below w5.heap.size w5 w9 := below_step hbw9 (by first | assumption | (exact Below.drew (Below.refl _ _)) | (exact Below.drew (by assumption))); skip; clear hbw9))) | fail
  all_goals
    go_wp2_with fail
    go_ret
    exact ⟨rfl, BB.out.trans (Below.mono (by assumption) BB.out.size)⟩

set_option maxRecDepth 100000 in
set_option maxHeartbeats 4000000 in
theorem walkG1L (t q n : Nat) (ht : t < 256) (hq : t % 64 = q) (hn : 1 + q = n) (i : Int) (hi : (n : Int) ≤ i) (D : Option Addr) (dn dc : Nat) (f : Nat → Int) (hdc : dn ≤ dc) (hdl : 200 < dn) (w : World) (hD : Hid (AtI w D dn f)) :
    Calls Try.prog 7 #[.agg #[.int .u8 (t : Int), .int .i64 1, .int .i64 i, .slice D dn dc]] w fun e w' => e = .returned (.bool true) ∧ Below w.heap.size w w' := by
  have hq64 : q < 64 := by omega
  have kr1 : (t : Int).tmod 64 = (q : Int) := by rw [Int.tmod_eq_emod_of_nonneg (by omega)]; omega
  have kr2 : (t : Int) % 64 = (q : Int) := by omega
  have ks : (1 : Int) + (q : Int) = (n : Int) := by omega
  have kd : decide ((200 : Int) < (dn : Int)) = true := by rw [decide_eq_true_iff]; omega
  have hn1 : 1 ≤ n := by omega
  have hn64 : n ≤ 64 := by omega
  have HN1 := Lib.hid hn1
  have HN64 := Lib.hid hn64
  have i0 : decide ((0 : Int) ≤ i) = true := by rw [decide_eq_true_iff]; omega
  have i1 : decide (i < (n : Int)) = false := by rw [decide_eq_false_iff_not]; omega
  have hno : hasB 1 i n n = false := by unfold hasB isB; rw [show (if (1 : Int) = 0 then n else n) = n by split <;> rfl]; rw [i1]; simp
  clear hi
  have HDC := Lib.hid hdc
  clear hq hn hdl hdc
  go_enter Try.func7, Try.ntmps7
  go_wp2_with fail
  refine (shown_below _).mono ?_
  rintro e w1 ⟨rfl, hb⟩
  have BB := Lib.hid (below_box hb)
  have V1 := ((VarAt.made w #[.int .u8 (t : Int), .int .i64 1, .int .i64 i, .slice D dn dc] 65).below hb)
  clear hb V1
  go_wp2_with fail
  refine (dskNew_yes n HN1.out HN64.out _).mono ?_
  rintro e w2 ⟨A1, a1, B1, b1, rfl, s0, s1, hb, _⟩
  obtain ⟨x2, hx2⟩ : ∃ x, w2.alloc (.cells #[.int .u64 0, .slice A1 n a1, .slice B1 n b1] 26) = x := ⟨_, rfl⟩
  have hbx : Below w2.heap.size w2 x2 := by rw [← hx2]; exact al_below _ _
  have D1 : Hid (DAt x2 w2.heap.size 0 A1 n a1 B1 n b1 (zerosS n) (zerosS n)) := Lib.hid (by rw [← hx2]; exact DAt.made s0 s1 _)
  have BBn := Lib.hid (BB.out.trans ((hb.trans (hbx.mono hb.size)).mono BB.out.size)); clear BB; have BB := BBn; clear BBn
  clear s0 s1 hb hbx
  obtain ⟨hz, c0, c1, c2, f0, f1, f2⟩ := D1.out.1.three
  have H0 := Lib.hid D1.out.2.1
  have H1 := Lib.hid D1.out.2.2
  go_wp2_with fail
  clear hz c0 c1 c2 f0 f1 f2
  refine (dskRead_no 0 A1 n a1 B1 n b1 1 i hno _).mono ?_
  rintro e w5 ⟨A5, c5, rfl, _, _, hbn⟩
  have D1n := Lib.hid (D1.out.below hbn); clear D1; have D1 := D1n; clear D1n
  have BBn := Lib.hid (BB.out.trans (hbn.mono BB.out.size)); clear BB; have BB := BBn; clear BBn
  clear hbn H0 H1
  go_wp2_with fail
  go_ret
  exact ⟨rfl, BB.out⟩

set_option maxRecDepth 100000 in
set_option maxHeartbeats 4000000 in
theorem walkG1S (t q n : Nat) (ht : t < 256) (hq : t % 64 = q) (hn : 1 + q = n) (i : Int) (hi : (n : Int) ≤ i) (D : Option Addr) (dn dc : Nat) (f : Nat → Int) (hdc : dn ≤ dc) (hdl : dn ≤ 200) (w : World) (hD : Hid (AtI w D dn f)) :
    Calls Try.prog 7 #[.agg #[.int .u8 (t : Int), .int .i64 1, .int .i64 i, .slice D dn dc]] w fun e w' => e = .returned (.bool true) ∧ Below w.heap.size w w' := by
  have hq64 : q < 64 := by omega
  have kr1 : (t : Int).tmod 64 = (q : Int) := by rw [Int.tmod_eq_emod_of_nonneg (by omega)]; omega
  have kr2 : (t : Int) % 64 = (q : Int) := by omega
  have ks : (1 : Int) + (q : Int) = (n : Int) := by omega
  have kd : decide ((200 : Int) < (dn : Int)) = false := by rw [decide_eq_false_iff_not]; omega
  have hn1 : 1 ≤ n := by omega
  have hn64 : n ≤ 64 := by omega
  have HN1 := Lib.hid hn1
  have HN64 := Lib.hid hn64
  have i0 : decide ((0 : Int) ≤ i) = true := by rw [decide_eq_true_iff]; omega
  have i1 : decide (i < (n : Int)) = false := by rw [decide_eq_false_iff_not]; omega
  have hno : hasB 1 i n n = false := by unfold hasB isB; rw [show (if (1 : Int) = 0 then n else n) = n by split <;> rfl]; rw [i1]; simp
  clear hi
  have HDC := Lib.hid hdc
  clear hq hn hdl hdc
  go_enter Try.func7, Try.ntmps7
  go_wp2_with fail
  refine (shown_below _).mono ?_
  rintro e w1 ⟨rfl, hb⟩
  have BB := Lib.hid (below_box hb)
  have V1 := ((VarAt.made w #[.int .u8 (t : Int), .int .i64 1, .int .i64 i, .slice D dn dc] 65).below hb)
  clear hb V1
  go_wp2_with fail
  refine (dskNew_yes n HN1.out HN64.out _).mono ?_
  rintro e w2 ⟨A1, a1, B1, b1, rfl, s0, s1, hb, _⟩
  obtain ⟨x2, hx2⟩ : ∃ x, w2.alloc (.cells #[.int .u64 0, .slice A1 n a1, .slice B1 n b1] 26) = x := ⟨_, rfl⟩
  have hbx : Below w2.heap.size w2 x2 := by rw [← hx2]; exact al_below _ _
  have D1 : Hid (DAt x2 w2.heap.size 0 A1 n a1 B1 n b1 (zerosS n) (zerosS n)) := Lib.hid (by rw [← hx2]; exact DAt.made s0 s1 _)
  have BBn := Lib.hid (BB.out.trans ((hb.trans (hbx.mono hb.size)).mono BB.out.size)); clear BB; have BB := BBn; clear BBn
  clear s0 s1 hb hbx
  obtain ⟨hz, c0, c1, c2, f0, f1, f2⟩ := D1.out.1.three
  have H0 := Lib.hid D1.out.2.1
  have H1 := Lib.hid D1.out.2.2
  go_wp2_with fail
  clear hz c0 c1 c2 f0 f1 f2
  refine (dskRead_no 0 A1 n a1 B1 n b1 1 i hno _).mono ?_
  rintro e w5 ⟨A5, c5, rfl, _, _, hbn⟩
  have D1n := Lib.hid (D1.out.below hbn); clear D1; have D1 := D1n; clear D1n
  have BBn := Lib.hid (BB.out.trans (hbn.mono BB.out.size)); clear BB; have BB := BBn; clear BBn
  clear hbn H0 H1
  have hD5 := Lib.hid (hD.out.later BB.out)
  have H0 := Lib.hid D1.out.2.1
  have H1 := Lib.hid D1.out.2.2
  have V := Lib.hid D1.out.1
  have hS0 : ∀ w', Below w5.heap.size w5 w' → w'.cell? ⟨w2.heap.size, 0, none⟩ = some (.int .u64 0) := fun w' hb => (V.out.below hb).2.1 0 _ rfl
  have hS1 : ∀ w', Below w5.heap.size w5 w' → w'.cell? ⟨w2.heap.size, 1, none⟩ = some (.slice A1 n a1) := fun w' hb => (V.out.below hb).2.1 1 _ rfl
  have hS2 : ∀ w', Below w5.heap.size w5 w' → w'.cell? ⟨w2.heap.size, 2, none⟩ = some (.slice B1 n b1) := fun w' hb => (V.out.below hb).2.1 2 _ rfl
  have hB0 : Below w5.heap.size w5 w5 := Below.refl _ _
  have CR := fun w h0 h1 h2 => newCrash n a1 b1 HN64.out A1 B1 D dn dc HDC.out f w h0 h1 h2
  go_wp2_with fail
  first | (go_region_held3 (fun w' => Below w5.heap.size w5 w') (first | assumption | (exact Below.drew (by assumption)) | (exact Below.drew (Below.refl _ _)))
    (first
      | (go_at_call 14; (with_reducible refine (newRight n a1 b1 HN1.out HN64.out A1 B1 _ (Lib.hid (StmsAt.later H0.out (by first | assumption | (exact Below.drew (Below.refl _ _)) | (exact Below.drew (by assumption))))) (Lib.hid (StmsAt.later H1.out (by first | assumption | (exact Below.drew (Below.refl _ _)) | (exact Below.drew (by assumption)))))).mono ?_); rintro e w6 ⟨rfl, hbw6⟩; have hBw6 : Below w5.heap.size w5 w6 := below_step hbw6 (by first | assumption | (exact Below.drew (Below.refl _ _)) | (exact Below.drew (by assumption))); skip; clear hbw6)
      | (go_at_call 23; (with_reducible refine (newRow n a1 b1 A1 B1 _).mono ?_); rintro e w7 ⟨rfl, hbw7⟩; have hBw7 : Below w5.heap.size w5 w7 := below_step hbw7 (by first | assumption | (exact Below.drew (Below.refl _ _)) | (exact Below.drew (by assumption))); skip; clear hbw7)
      | (go_at_call 24; (with_reducible refine (CR _ (Lib.hid (StmsAt.later H0.out (by first | assumption | (exact Below.drew (Below.refl _ _)) | (exact Below.drew (by assumption))))) (Lib.hid (StmsAt.later H1.out (by first | assumption | (exact Below.drew (Below.refl _ _)) | (exact Below.drew (by assumption))))) (Lib.hid (AtI.later hD5.out (by first | assumption | (exact Below.drew (Below.refl _ _)) | (exact Below.drew (by assumption)))))).mono ?_); rintro e w8 ⟨A8, a8, B8, b8, rfl, s0, s1, hbw8, _⟩; have hBw8 : Below w5.heap.size w5 w8 := below_step hbw8 (by first | assumption | (exact Below.drew (Below.refl _ _)) | (exact Below.drew (by assumption))); have S0 := Lib.hid s0; have S1 := Lib.hid s1; clear s0 s1; clear hbw8)
      | (go_at_call 13; (with_reducible refine (sameD_at 0 A8 n a8 B8 n b8 A1 a1 B1 b1 (zerosS n) (zerosS n) _ S0 S1 (Lib.hid (StmsAt.later H0.out (by first | assumption | (exact Below.drew (Below.refl _ _)) | (exact Below.drew (by assumption))))) (Lib.hid (StmsAt.later H1.out (by first | assumption | (exact Below.drew (Below.refl _ _)) | (exact Below.drew (by assumption)))))).mono ?_); rintro e w9 ⟨rfl, hbw9⟩; have hBw9 : Below w5.heap.size w5 w9 := below_step hbw9 (by first | assumption | (exact Below.drew (Below.refl _ _)) | (exact Below.drew (by assumption))); skip; clear hbw9))) | fail
  all_goals
    go_wp2_with fail
    go_ret
    exact ⟨rfl, BB.out.trans (Below.mono (by assumption) BB.out.size)⟩

set_option maxRecDepth 100000 in
theorem lifted (os : Os) (started : os.Started) (H : Type) (enc : TypeId × Value → H) :
    ReturnsInHanded {} Try.checked os 7 .any (Rows.diskNewSpec.pre6 enc Try.prog Try.f7 Rows.diskNewRow.domain false) (Rows.diskNewSpec.post enc Try.prog Try.f7 false true false false) := by
  refine law_lifted (C := Try.checked) own started (by kernel_rfl) Try.func7
    (ChangeSpec.witness6 (enc := enc) (C := Try.checked) false ⟨#[], #[.agg #[.int .u8 0, .int .i64 0, .int .i64 0, .slice none 0 0]], []⟩ 8 (by kernel_rfl) (by kernel_rfl) (by kernel_rfl) (by kernel_rfl))
    (by kernel_rfl) (by kernel_rfl) Try.underlying4 rfl (by kernel_rfl) ?_
  intro W base args ds before hval hA hwt hlt
  have hA' : DataW.TrodAll enc Try.prog W 0 (fun _ => true) true Try.f7.params.toList args.toList ds before := hA
  have hval' : ∀ (j : Nat) t v, Try.f7.params[j]? = some t → args[j]? = some v → Value.okWide Try.prog W .any base t v := hval
  have hwt' : (DataW.weightsEach Try.prog Try.f7.params.toList ds).all (· ≤ reachBytes) = true := hwt
  rw [Try.params7] at hA' hval' hwt'
  obtain ⟨v0, vs0, d0, ds0, p0, q0, hargs, rfl, rfl, h0, r0⟩ := trodAll_cons hA'
  obtain ⟨rfl, rfl, rfl⟩ := trodAll_nil r0
  obtain rfl : args = #[v0] := by cases args; simp_all
  obtain ⟨t, row, i, D, dn, dc, f, rfl, ht, hrow, hi, hdc, hD⟩ := open_new (hval' 0 65 v0 rfl rfl) h0 (sized_of hwt' (j := 0) (t := 65) rfl rfl) (fun x hx => hlt x (by simp [hx]))
  refine ⟨rfl, ?_⟩
  by_cases hr : rowB row = true
  · rcases rowB_iff hr with rfl | rfl
    · by_cases h1 : i < 0
      · by_cases hdl : 200 < dn
        · exact walkL0L t _ _ ht rfl rfl i h1 D dn dc f hdc hdl W (Lib.hid hD)
        · exact walkL0S t _ _ ht rfl rfl i h1 D dn dc f hdc (by omega) W (Lib.hid hD)
      · by_cases h2 : i < ((1 + t % 64 : Nat) : Int)
        · obtain ⟨k, rfl⟩ := Int.eq_ofNat_of_zero_le (show 0 ≤ i by omega)
          by_cases hdl : 200 < dn
          · exact walkY0L t _ _ ht rfl rfl k (by omega) D dn dc f hdc hdl W (Lib.hid hD)
          · exact walkY0S t _ _ ht rfl rfl k (by omega) D dn dc f hdc (by omega) W (Lib.hid hD)
        · by_cases hdl : 200 < dn
          · exact walkG0L t _ _ ht rfl rfl i (by omega) D dn dc f hdc hdl W (Lib.hid hD)
          · exact walkG0S t _ _ ht rfl rfl i (by omega) D dn dc f hdc (by omega) W (Lib.hid hD)
    · by_cases h1 : i < 0
      · by_cases hdl : 200 < dn
        · exact walkL1L t _ _ ht rfl rfl i h1 D dn dc f hdc hdl W (Lib.hid hD)
        · exact walkL1S t _ _ ht rfl rfl i h1 D dn dc f hdc (by omega) W (Lib.hid hD)
      · by_cases h2 : i < ((1 + t % 64 : Nat) : Int)
        · obtain ⟨k, rfl⟩ := Int.eq_ofNat_of_zero_le (show 0 ≤ i by omega)
          by_cases hdl : 200 < dn
          · exact walkY1L t _ _ ht rfl rfl k (by omega) D dn dc f hdc hdl W (Lib.hid hD)
          · exact walkY1S t _ _ ht rfl rfl k (by omega) D dn dc f hdc (by omega) W (Lib.hid hD)
        · by_cases hdl : 200 < dn
          · exact walkG1L t _ _ ht rfl rfl i (by omega) D dn dc f hdc hdl W (Lib.hid hD)
          · exact walkG1S t _ _ ht rfl rfl i (by omega) D dn dc f hdc (by omega) W (Lib.hid hD)
  · have hr' : rowB row = false := by simpa using hr
    by_cases hdl : 200 < dn
    · exact walkRL t _ _ ht rfl rfl row hr' i D dn dc f hdc hdl W (Lib.hid hD)
    · exact walkRS t _ _ ht rfl rfl row hr' i D dn dc f hdc (by omega) W (Lib.hid hD)

theorem over : Rows.diskNewRow.holds Try.pinned (OpenSpec.ofChange Rows.diskNewSpec) :=
  OpenClaim.holds_of_wide 7 Try.f7 rfl rfl rfl rfl rfl rfl rfl ⟨rfl, rfl, rfl, rfl, rfl⟩ rfl rfl rfl rfl rfl (by kernel_rfl) Try.func7 (by kernel_rfl)
    (of_decide_eq_true (by kernel_rfl)) (by unfold Func.isWrapper; first | (rw [if_pos (by decide +kernel)]; kernel_rfl) | (rw [if_neg (by decide +kernel)]; exact ⟨rfl, rfl⟩))
    (fun os started H enc _ => lifted os started H enc)

/-- The statement. -/
theorem proved : Rows.DiskNewSaid :=
  over
#print axioms proved
end Go.Proofs.Ytfggnmmiifjilaa.diskNew
