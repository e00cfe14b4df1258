/-
  DiskApart: a call turns its own stream alone; a root that is set turns none; a crash turns neither the root, nor what is synced; for every disk that is right, of 8 streams a row, 4000 bytes. No condition beyond the statement's own.
-/
import Derived.Test.YtfggnmmiifjilaaDiskApart0
import Derived.Test.YtfggnmmiifjilaaDiskApart1
import Derived.Test.YtfggnmmiifjilaaLaw
import Derived.Deep.RegionHeld3
namespace Go.Proofs.Ytfggnmmiifjilaa.diskApart
open Go.ChangeShapes Go.WideShapes Go.ChangeAt Go.RowKit
set_option linter.unusedVariables false
theorem own : ownKnob Try.prog.godebug = none := by kernel_rfl

set_option maxRecDepth 100000 in
set_option maxHeartbeats 8000000 in
theorem walkFew (r : Nat) (A : Option Addr) (n a : Nat) (B : Option Addr) (m b : Nat) (l0 l1 : List Stm) (row i : Nat) (C : Option Addr) (j jc q : Nat) (D : Option Addr) (dn dc : Nat) (w : World) (h0 : Hid (StmsAt w A n l0)) (h1 : Hid (StmsAt w B m l1)) (hf : fewD l0 l1 = false) :
    Calls Try.prog 4 #[.agg #[.int .u64 (r : Int), .slice A n a, .slice B m b, .int .u8 (row : Int), .int .u8 (i : Int), .slice C j jc, .int .u64 (q : Int), .slice D dn dc]] w fun e w' => e = .returned (.bool true) ∧ Below w.heap.size w w' := by
  have HFEW := fun w h h' => few_at (r : Int) A n a B m b l0 l1 w h h'
  rw [hf] at HFEW
  go_enter Try.func4, Try.ntmps4
  go_wp2_with fail
  refine (shown_below _).mono ?_
  rintro e w1 ⟨rfl, hb⟩
  have BB := Lib.hid ((below_pair w _ _).trans (hb.mono (below_pair w _ _).size))
  have D1 : Hid (DAt w1 (w.heap.size + 1) (r : Int) A n a B m b l0 l1) := Lib.hid (DAt.below ⟨VarAt.three1 w (.int .u64 (r : Int)) (.slice A n a) (.slice B m b) (.cells #[.int .u64 (r : Int), .slice A n a, .slice B m b, .int .u8 (row : Int), .int .u8 (i : Int), .slice C j jc, .int .u64 (q : Int), .slice D dn dc] 53) 26, h0.out.later (below_pair w _ _), h1.out.later (below_pair w _ _)⟩ hb)
  clear hb
  obtain ⟨hz1, c0, c1, c2, f0, f1, f2⟩ := D1.out.1.three
  have S10 := Lib.hid D1.out.2.1
  have S11 := Lib.hid D1.out.2.2
  go_wp2_with (go_at_call 9; (with_reducible refine (HFEW _ S10 S11).mono ?_); rintro e w2 ⟨rfl, hbn⟩; have D2 := Lib.hid (D1.out.below hbn); have BB2 := Lib.hid (BB.out.trans (hbn.mono BB.out.size)); clear hbn hz1 c0 c1 c2 f0 f1 f2 D1 BB; obtain ⟨hz1, c0, c1, c2, f0, f1, f2⟩ := D2.out.1.three; have S20 := Lib.hid D2.out.2.1; have S21 := Lib.hid D2.out.2.2)
  go_ret
  exact ⟨rfl, BB2.out⟩

set_option maxRecDepth 100000 in
set_option maxHeartbeats 8000000 in
theorem walkWrong (r : Nat) (A : Option Addr) (n a : Nat) (B : Option Addr) (m b : Nat) (l0 l1 : List Stm) (row i : Nat) (C : Option Addr) (j jc q : Nat) (D : Option Addr) (dn dc : Nat) (w : World) (h0 : Hid (StmsAt w A n l0)) (h1 : Hid (StmsAt w B m l1)) (hf : fewD l0 l1 = true) (hr : rightD l0 l1 = false) :
    Calls Try.prog 4 #[.agg #[.int .u64 (r : Int), .slice A n a, .slice B m b, .int .u8 (row : Int), .int .u8 (i : Int), .slice C j jc, .int .u64 (q : Int), .slice D dn dc]] w fun e w' => e = .returned (.bool true) ∧ Below w.heap.size w w' := by
  have HFEW := fun w h h' => few_at (r : Int) A n a B m b l0 l1 w h h'
  rw [hf] at HFEW
  have HRIGHT := fun w h h' => refRightD_at (r : Int) A n a B m b l0 l1 w h h'
  rw [hr] at HRIGHT
  go_enter Try.func4, Try.ntmps4
  go_wp2_with fail
  refine (shown_below _).mono ?_
  rintro e w1 ⟨rfl, hb⟩
  have BB := Lib.hid ((below_pair w _ _).trans (hb.mono (below_pair w _ _).size))
  have D1 : Hid (DAt w1 (w.heap.size + 1) (r : Int) A n a B m b l0 l1) := Lib.hid (DAt.below ⟨VarAt.three1 w (.int .u64 (r : Int)) (.slice A n a) (.slice B m b) (.cells #[.int .u64 (r : Int), .slice A n a, .slice B m b, .int .u8 (row : Int), .int .u8 (i : Int), .slice C j jc, .int .u64 (q : Int), .slice D dn dc] 53) 26, h0.out.later (below_pair w _ _), h1.out.later (below_pair w _ _)⟩ hb)
  clear hb
  obtain ⟨hz1, c0, c1, c2, f0, f1, f2⟩ := D1.out.1.three
  have S10 := Lib.hid D1.out.2.1
  have S11 := Lib.hid D1.out.2.2
  go_wp2_with (first | (go_at_call 9; (with_reducible refine (HFEW _ S10 S11).mono ?_); rintro e w2 ⟨rfl, hbn⟩; have D2 := Lib.hid (D1.out.below hbn); have BB2 := Lib.hid (BB.out.trans (hbn.mono BB.out.size)); clear hbn hz1 c0 c1 c2 f0 f1 f2 D1 BB; obtain ⟨hz1, c0, c1, c2, f0, f1, f2⟩ := D2.out.1.three; have S20 := Lib.hid D2.out.2.1; have S21 := Lib.hid D2.out.2.2) | (go_at_call 12; (with_reducible refine (HRIGHT _ S20 S21).mono ?_); rintro e w3 ⟨rfl, hbn⟩; have D3 := Lib.hid (D2.out.below hbn); have BB3 := Lib.hid (BB2.out.trans (hbn.mono BB2.out.size)); clear hbn hz1 c0 c1 c2 f0 f1 f2 D2 BB2 S20 S21; obtain ⟨hz1, c0, c1, c2, f0, f1, f2⟩ := D3.out.1.three))
  go_ret
  exact ⟨rfl, BB3.out⟩

set_option maxRecDepth 100000 in
set_option maxHeartbeats 8000000 in
theorem walkLongA (r : Nat) (A : Option Addr) (n a : Nat) (B : Option Addr) (m b : Nat) (l0 l1 : List Stm) (row i : Nat) (C : Option Addr) (j jc q : Nat) (D : Option Addr) (dn dc : Nat) (w : World) (h0 : Hid (StmsAt w A n l0)) (h1 : Hid (StmsAt w B m l1)) (hf : fewD l0 l1 = true) (hr : rightD l0 l1 = true) (hj : 500 < j) :
    Calls Try.prog 4 #[.agg #[.int .u64 (r : Int), .slice A n a, .slice B m b, .int .u8 (row : Int), .int .u8 (i : Int), .slice C j jc, .int .u64 (q : Int), .slice D dn dc]] w fun e w' => e = .returned (.bool true) ∧ Below w.heap.size w w' := by
  have HFEW := fun w h h' => few_at (r : Int) A n a B m b l0 l1 w h h'
  rw [hf] at HFEW
  have HRIGHT := fun w h h' => refRightD_at (r : Int) A n a B m b l0 l1 w h h'
  rw [hr] at HRIGHT
  have kd : decide ((500 : Int) < (j : Int)) = true := by rw [decide_eq_true_iff]; omega
  go_enter Try.func4, Try.ntmps4
  go_wp2_with fail
  refine (shown_below _).mono ?_
  rintro e w1 ⟨rfl, hb⟩
  have BB := Lib.hid ((below_pair w _ _).trans (hb.mono (below_pair w _ _).size))
  have D1 : Hid (DAt w1 (w.heap.size + 1) (r : Int) A n a B m b l0 l1) := Lib.hid (DAt.below ⟨VarAt.three1 w (.int .u64 (r : Int)) (.slice A n a) (.slice B m b) (.cells #[.int .u64 (r : Int), .slice A n a, .slice B m b, .int .u8 (row : Int), .int .u8 (i : Int), .slice C j jc, .int .u64 (q : Int), .slice D dn dc] 53) 26, h0.out.later (below_pair w _ _), h1.out.later (below_pair w _ _)⟩ hb)
  clear hb
  obtain ⟨hz1, c0, c1, c2, f0, f1, f2⟩ := D1.out.1.three
  have S10 := Lib.hid D1.out.2.1
  have S11 := Lib.hid D1.out.2.2
  go_wp2_with (first | (go_at_call 9; (with_reducible refine (HFEW _ S10 S11).mono ?_); rintro e w2 ⟨rfl, hbn⟩; have D2 := Lib.hid (D1.out.below hbn); have BB2 := Lib.hid (BB.out.trans (hbn.mono BB.out.size)); clear hbn hz1 c0 c1 c2 f0 f1 f2 D1 BB; obtain ⟨hz1, c0, c1, c2, f0, f1, f2⟩ := D2.out.1.three; have S20 := Lib.hid D2.out.2.1; have S21 := Lib.hid D2.out.2.2) | (go_at_call 12; (with_reducible refine (HRIGHT _ S20 S21).mono ?_); rintro e w3 ⟨rfl, hbn⟩; have D3 := Lib.hid (D2.out.below hbn); have BB3 := Lib.hid (BB2.out.trans (hbn.mono BB2.out.size)); clear hbn hz1 c0 c1 c2 f0 f1 f2 D2 BB2 S20 S21; obtain ⟨hz1, c0, c1, c2, f0, f1, f2⟩ := D3.out.1.three))
  go_ret
  exact ⟨rfl, BB3.out⟩

set_option maxRecDepth 100000 in
set_option maxHeartbeats 8000000 in
theorem walkLongB (r : Nat) (A : Option Addr) (n a : Nat) (B : Option Addr) (m b : Nat) (l0 l1 : List Stm) (row i : Nat) (C : Option Addr) (j jc q : Nat) (D : Option Addr) (dn dc : Nat) (w : World) (h0 : Hid (StmsAt w A n l0)) (h1 : Hid (StmsAt w B m l1)) (hf : fewD l0 l1 = true) (hr : rightD l0 l1 = true) (hj : j ≤ 500) (hd : 40 < dn) :
    Calls Try.prog 4 #[.agg #[.int .u64 (r : Int), .slice A n a, .slice B m b, .int .u8 (row : Int), .int .u8 (i : Int), .slice C j jc, .int .u64 (q : Int), .slice D dn dc]] w fun e w' => e = .returned (.bool true) ∧ Below w.heap.size w w' := by
  have HFEW := fun w h h' => few_at (r : Int) A n a B m b l0 l1 w h h'
  rw [hf] at HFEW
  have HRIGHT := fun w h h' => refRightD_at (r : Int) A n a B m b l0 l1 w h h'
  rw [hr] at HRIGHT
  have kd : decide ((500 : Int) < (j : Int)) = false := by rw [decide_eq_false_iff_not]; omega
  have ke : decide ((40 : Int) < (dn : Int)) = true := by rw [decide_eq_true_iff]; omega
  go_enter Try.func4, Try.ntmps4
  go_wp2_with fail
  refine (shown_below _).mono ?_
  rintro e w1 ⟨rfl, hb⟩
  have BB := Lib.hid ((below_pair w _ _).trans (hb.mono (below_pair w _ _).size))
  have D1 : Hid (DAt w1 (w.heap.size + 1) (r : Int) A n a B m b l0 l1) := Lib.hid (DAt.below ⟨VarAt.three1 w (.int .u64 (r : Int)) (.slice A n a) (.slice B m b) (.cells #[.int .u64 (r : Int), .slice A n a, .slice B m b, .int .u8 (row : Int), .int .u8 (i : Int), .slice C j jc, .int .u64 (q : Int), .slice D dn dc] 53) 26, h0.out.later (below_pair w _ _), h1.out.later (below_pair w _ _)⟩ hb)
  clear hb
  obtain ⟨hz1, c0, c1, c2, f0, f1, f2⟩ := D1.out.1.three
  have S10 := Lib.hid D1.out.2.1
  have S11 := Lib.hid D1.out.2.2
  go_wp2_with (first | (go_at_call 9; (with_reducible refine (HFEW _ S10 S11).mono ?_); rintro e w2 ⟨rfl, hbn⟩; have D2 := Lib.hid (D1.out.below hbn); have BB2 := Lib.hid (BB.out.trans (hbn.mono BB.out.size)); clear hbn hz1 c0 c1 c2 f0 f1 f2 D1 BB; obtain ⟨hz1, c0, c1, c2, f0, f1, f2⟩ := D2.out.1.three; have S20 := Lib.hid D2.out.2.1; have S21 := Lib.hid D2.out.2.2) | (go_at_call 12; (with_reducible refine (HRIGHT _ S20 S21).mono ?_); rintro e w3 ⟨rfl, hbn⟩; have D3 := Lib.hid (D2.out.below hbn); have BB3 := Lib.hid (BB2.out.trans (hbn.mono BB2.out.size)); clear hbn hz1 c0 c1 c2 f0 f1 f2 D2 BB2 S20 S21; obtain ⟨hz1, c0, c1, c2, f0, f1, f2⟩ := D3.out.1.three))
  go_ret
  exact ⟨rfl, BB3.out⟩

set_option maxRecDepth 100000 in
theorem lifted (os : Os) (started : os.Started) (H : Type) (enc : TypeId × Value → H) :
    ReturnsInHanded {} Try.checked os 4 .any (Rows.diskApartSpec.pre6 enc Try.prog Try.f4 Rows.diskApartRow.domain false) (Rows.diskApartSpec.post enc Try.prog Try.f4 false true false false) := by
  refine law_lifted (C := Try.checked) own started (by kernel_rfl) Try.func4
    (ChangeSpec.witness6 (enc := enc) (C := Try.checked) false ⟨#[], #[.agg #[.int .u64 0, .slice none 0 0, .slice none 0 0, .int .u8 0, .int .u8 0, .slice none 0 0, .int .u64 0, .slice none 0 0]], []⟩ 8 (by kernel_rfl) (by kernel_rfl) (by kernel_rfl) (by kernel_rfl))
    (by kernel_rfl) (by kernel_rfl) Try.underlying4 rfl (by kernel_rfl) ?_
  intro W base args ds before hval hA hwt hlt
  have hA' : DataW.TrodAll enc Try.prog W 0 (fun _ => true) true Try.f4.params.toList args.toList ds before := hA
  have hval' : ∀ (j : Nat) t v, Try.f4.params[j]? = some t → args[j]? = some v → Value.okWide Try.prog W .any base t v := hval
  have hwt' : (DataW.weightsEach Try.prog Try.f4.params.toList ds).all (· ≤ reachBytes) = true := hwt
  rw [Try.params4] at hA' hval' hwt'
  obtain ⟨v0, vs0, d0, ds0, p0, q0, hargs, rfl, rfl, h0, r0⟩ := trodAll_cons hA'
  obtain ⟨rfl, rfl, rfl⟩ := trodAll_nil r0
  obtain rfl : args = #[v0] := by cases args; simp_all
  obtain ⟨r, A, n, a, B, m, b, l0, l1, row, i, C, j, jc, ys, q, D, dn, dc, f, rfl, hr, hna, hmb, hl0, hl1, hrow, hi, hjc, hj, hC, hq, hdc, hD⟩ := open_apart (hval' 0 53 v0 rfl rfl) h0 (sized_of hwt' (j := 0) (t := 53) rfl rfl) (fun x hx => hlt x (by simp [hx]))
  refine ⟨rfl, ?_⟩
  by_cases hf : fewD l0 l1 = true
  · by_cases hrt : rightD l0 l1 = true
    · by_cases hjl : 500 < j
      · exact walkLongA r A n a B m b l0 l1 row i C j jc q D dn dc W (Lib.hid hl0) (Lib.hid hl1) hf hrt hjl
      by_cases hdl : 40 < dn
      · exact walkLongB r A n a B m b l0 l1 row i C j jc q D dn dc W (Lib.hid hl0) (Lib.hid hl1) hf hrt (by omega) hdl
      · obtain ⟨e1, g0, g1, h1, _⟩ := right_len hrt
        obtain ⟨h8, _, hsum⟩ := fewD_iff hf
        obtain rfl : n = m := by have := hl0.1; have := hl1.1; omega
        have hnn : l0.length = n := hl0.1
        rcases Nat.mod_two_eq_zero_or_one row with hz | hz
        · have hx : l0[i % n]? = some (l0[i % n]'(by have := hl0.1; have := Nat.mod_lt i (show 0 < n by omega); omega)) := List.getElem?_eq_getElem _
          obtain ⟨ga, oa, rfl, _⟩ := hl0.2.2 (by omega)
          obtain ⟨gb, ob, rfl, _⟩ := hl1.2.2 (by omega)
          exact walk0 r ga oa n a gb ob b l0 l1 row i _ C j jc q ys D dn dc f _ _ W (Lib.hid hl0) (Lib.hid hl1) (Lib.hid hC) (Lib.hid hD) hdc hf hrt g0 g1 (by omega) (by omega) (by omega) (by omega) hrow hi hz rfl hx (by have := sumN_mem (List.mem_of_getElem? hx); omega) rfl hq
        · have hx : l1[i % n]? = some (l1[i % n]'(by have := hl1.1; have := Nat.mod_lt i (show 0 < n by omega); omega)) := List.getElem?_eq_getElem _
          obtain ⟨ga, oa, rfl, _⟩ := hl0.2.2 (by omega)
          obtain ⟨gb, ob, rfl, _⟩ := hl1.2.2 (by omega)
          exact walk1 r ga oa n a gb ob b l0 l1 row i _ C j jc q ys D dn dc f _ _ W (Lib.hid hl0) (Lib.hid hl1) (Lib.hid hC) (Lib.hid hD) hdc hf hrt g0 g1 (by omega) (by omega) (by omega) (by omega) hrow hi hz rfl hx (by have := sumN_mem (List.mem_of_getElem? hx); omega) rfl hq
    · exact walkWrong r A n a B m b l0 l1 row i C j jc q D dn dc W (Lib.hid hl0) (Lib.hid hl1) hf (by simpa using hrt)
  · exact walkFew r A n a B m b l0 l1 row i C j jc q D dn dc W (Lib.hid hl0) (Lib.hid hl1) (by simpa using hf)

theorem over : Rows.diskApartRow.holds Try.pinned (OpenSpec.ofChange Rows.diskApartSpec) :=
  OpenClaim.holds_of_wide 4 Try.f4 rfl rfl rfl rfl rfl rfl rfl ⟨rfl, rfl, rfl, rfl, rfl⟩ rfl rfl rfl rfl rfl (by kernel_rfl) Try.func4 (by kernel_rfl)
    (of_decide_eq_true (by kernel_rfl)) (by unfold Func.isWrapper; first | (rw [if_pos (by decide +kernel)]; kernel_rfl) | (rw [if_neg (by decide +kernel)]; exact ⟨rfl, rfl⟩))
    (fun os started H enc _ => lifted os started H enc)

/-- The statement. -/
theorem proved : Rows.DiskApartSaid :=
  over
#print axioms proved
end Go.Proofs.Ytfggnmmiifjilaa.diskApart
