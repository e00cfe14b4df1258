/-
  The contracts of few, and of the document's own Asks, Outs, (*Cur).Do, (*Cur).Told and Line.
-/
import Derived.Test.YtjbhichgojjakaaPlyLoop
namespace Go.Proofs.Ytjbhichgojjakaa
open Go.ChangeShapes Go.WideShapes Go.ChangeAt Go.RowKit Go.BigFrame
set_option linter.unusedVariables false
set_option maxRecDepth 100000

/-! ### few -/
def smallA (x : Acc) : Bool := decide (x.d.length ≤ 100) && decide (x.m ≤ 100)
def fewA (l : List Acc) (n most : Nat) : Bool := decide (n ≤ most) && l.all smallA
theorem fewA_at (L : Option Addr) (ln lc : Nat) (l : List Acc) (most : Nat) (hm : most ≤ 1000) (w : World) (hL : Hid (AccsAt w L ln l)) :
    Calls Try.prog 13 #[.slice L ln lc, .int .i64 (most : Int)] w fun e w' => e = .returned (.bool (fewA l ln most)) ∧ w = w' := by
  by_cases h : most < ln
  · have d1 : decide ((most : Int) < (ln : Int)) = true := by rw [decide_eq_true_iff]; omega
    have d1' : decide (most < ln) = true := by rw [decide_eq_true_iff]; omega
    have e : fewA l ln most = false := by unfold fewA; rw [decide_eq_false (by omega)]; rfl
    rw [e]
    clear h e
    go_enter Try.func13, Try.ntmps13
    go_wp2_with fail
    go_ret
    exact ⟨rfl, rfl⟩
  · have d1 : decide ((most : Int) < (ln : Int)) = false := by rw [decide_eq_false_iff_not]; omega
    have d1' : decide (most < ln) = false := by rw [decide_eq_false_iff_not]; omega
    have HN : Hid (ln ≤ most) := Lib.hid (by omega)
    have HM := Lib.hid hm
    clear h hm
    go_enter Try.func13, Try.ntmps13
    go_wp2_with fail
    go_loopw [5] (fun i wr => ∃ j : Nat, j ≤ ln ∧ i = .int .i64 (j : Int) ∧ wr = w ∧ ∀ i x, i < j → l[i]? = some x → smallA x = true) (fun i _ => ln - (intOf i).toNat)
    case atStart => exact ⟨0, Nat.zero_le _, rfl, rfl, fun i x hi => by omega⟩
    case round =>
      obtain ⟨j, hj, rfl, rfl, hall⟩ := hrel
      have HA := Lib.hid hall
      clear hall
      have hlm : ln ≤ 1000 := by have := HN.out; have := HM.out; omega
      by_cases hlt : j < ln
      · obtain ⟨x, hx⟩ : ∃ x, l[j]? = some x := ⟨_, List.getElem?_eq_getElem (show j < l.length by have := hL.out.1; omega)⟩
        obtain ⟨bl, ol, D, dc, E, ec, rfl, hbl, ⟨_, _, _, _, e4, e5⟩, hxp⟩ := hL.out.at_ j x hx
        have i1 : (0 : Int) ≤ (j : Int) := by omega
        have i2 : (j : Int) < (ln : Int) := by omega
        have d2 : decide ((j : Int) < (ln : Int)) = true := by rw [decide_eq_true_iff]; omega
        have d2' : decide (j < ln) = true := by rw [decide_eq_true_iff]; omega
        have HX := Lib.hid hx
        clear hxp hx
        by_cases h1 : 100 < x.d.length
        · have d3 : decide ((100 : Int) < (x.d.length : Int)) = true := by rw [decide_eq_true_iff]; omega
          have d3' : decide (100 < x.d.length) = true := by rw [decide_eq_true_iff]; omega
          have e : fewA l ln most = false := by
            unfold fewA
            rw [show l.all smallA = false from List.all_eq_false.2 ⟨x, List.mem_of_getElem? HX.out, by unfold smallA; rw [decide_eq_false (by omega)]; simp⟩, Bool.and_false]
          have HE := Lib.hid e
          clear h1 e
          go_wp2_with fail
          go_ret
          exact ⟨ret_bool' HE.out.symm, rfl⟩
        · have d3 : decide ((100 : Int) < (x.d.length : Int)) = false := by rw [decide_eq_false_iff_not]; omega
          have d3' : decide (100 < x.d.length) = false := by rw [decide_eq_false_iff_not]; omega
          by_cases h2 : 100 < x.m
          · have d4 : decide ((100 : Int) < (x.m : Int)) = true := by rw [decide_eq_true_iff]; omega
            have d4' : decide (100 < x.m) = true := by rw [decide_eq_true_iff]; omega
            have e : fewA l ln most = false := by
              unfold fewA
              rw [show l.all smallA = false from List.all_eq_false.2 ⟨x, List.mem_of_getElem? HX.out, by unfold smallA; rw [decide_eq_false (show ¬ x.m ≤ 100 by omega)]; simp⟩, Bool.and_false]
            have HE := Lib.hid e
            clear h1 h2 e
            go_wp2_with fail
            go_ret
            exact ⟨ret_bool' HE.out.symm, rfl⟩
          · have d4 : decide ((100 : Int) < (x.m : Int)) = false := by rw [decide_eq_false_iff_not]; omega
            have d4' : decide (100 < x.m) = false := by rw [decide_eq_false_iff_not]; omega
            have hs : smallA x = true := by unfold smallA; rw [decide_eq_true (show x.d.length ≤ 100 by omega), decide_eq_true (show x.m ≤ 100 by omega)]; rfl
            have HS := Lib.hid hs
            clear h1 h2 hs
            go_wp2_with fail
            go_roundw
            case rel =>
              refine ⟨j + 1, by omega, by go_num, by first | rfl | trivial, fun i y hi hy => ?_⟩
              by_cases hij : i = j
              · subst hij
                have := HX.out
                rw [hy] at this
                cases this
                exact HS.out
              · exact HA.out i y (by omega) hy
            case measure => simp [intOf]; omega
      · obtain rfl : j = ln := by omega
        have d2 : decide ((j : Int) < (j : Int)) = false := by rw [decide_eq_false_iff_not]; omega
        have d2' : decide (j < j) = false := by rw [decide_eq_false_iff_not]; omega
        have e : fewA l j most = true := by
          unfold fewA
          rw [decide_eq_true HN.out, show l.all smallA = true from List.all_eq_true.2 fun x hx => by
            obtain ⟨i, hi, rfl⟩ := List.getElem_of_mem hx
            exact HA.out i _ (by have := hL.out.1; omega) (List.getElem?_eq_getElem hi)]
          rfl
        have HE := Lib.hid e
        clear e
        go_wp2_with fail
        go_ret
        exact ⟨ret_bool' HE.out.symm, rfl⟩
theorem few_mem {l : List Acc} {n most : Nat} (h : fewA l n most = true) : n ≤ most ∧ (∀ x ∈ l, x.d.length ≤ 100) ∧ ∀ x ∈ l, x.m ≤ 100 := by
  unfold fewA at h
  simp only [Bool.and_eq_true, decide_eq_true_eq, List.all_eq_true] at h
  refine ⟨h.1, fun x hx => ?_, fun x hx => ?_⟩
  all_goals
    have := h.2 x hx
    unfold smallA at this
    simp only [Bool.and_eq_true, decide_eq_true_eq] at this
    omega

/-! ### Asks and Outs, of the same -/
/-- Two accesses in boxes. -/
structure AsksRel (w : World) (x : Acc) (D : Option Addr) (dc : Nat) (E : Option Addr) (ec : Nat) (D1 : Option Addr) (dc1 : Nat) (E1 : Option Addr) (ec1 : Nat) (y : World) : Prop where
  b0 : VarAt y w.heap.size (accA x D dc E ec)
  b1 : VarAt y (w.heap.size + 1) (accA x D1 dc1 E1 ec1)
  p0 : AccP y x D dc E ec
  p1 : AccP y x D1 dc1 E1 ec1
  below : Below w.heap.size w y
theorem AsksRel.drewN {w y : World} {x : Acc} {D : Option Addr} {dc : Nat} {E : Option Addr} {ec : Nat} {D1 : Option Addr} {dc1 : Nat} {E1 : Option Addr} {ec1 : Nat} (h : AsksRel w x D dc E ec D1 dc1 E1 ec1 y) (n : Nat) : AsksRel w x D dc E ec D1 dc1 E1 ec1 (y.drewN n) :=
  ⟨h.b0, h.b1, h.p0.later (below_draw (Below.refl _ _) n), h.p1.later (below_draw (Below.refl _ _) n), below_draw h.below n⟩
set_option maxHeartbeats 1000000 in
theorem asks_same (x : Acc) (D : Option Addr) (dc : Nat) (E : Option Addr) (ec : Nat) (D1 : Option Addr) (dc1 : Nat) (E1 : Option Addr) (ec1 : Nat) (w : World) (h0 : Hid (AccP w x D dc E ec)) (h1 : Hid (AccP w x D1 dc1 E1 ec1)) :
    Calls Try.prog 16 #[.agg #[.int .i64 x.k, .int .i64 x.c, .int .u64 (x.a : Int), .int .u64 (x.b : Int), .slice D x.d.length dc, .slice E x.m ec], .agg #[.int .i64 x.k, .int .i64 x.c, .int .u64 (x.a : Int), .int .u64 (x.b : Int), .slice D1 x.d.length dc1, .slice E1 x.m ec1]] w (Kept w (.bool true)) := by
  have s0 := fun W (hb : Below w.heap.size w W) => run_str (AtB.later (Lib.hid h0.out.d) hb) dc
  have s1 := fun W (hb : Below w.heap.size w W) => run_str (AtB.later (Lib.hid h1.out.d) hb) dc1
  obtain ⟨W, hW⟩ : ∃ W, (w.alloc (.cells #[.int .i64 x.k, .int .i64 x.c, .int .u64 (x.a : Int), .int .u64 (x.b : Int), .slice D x.d.length dc, .slice E x.m ec] 43)).alloc (.cells #[.int .i64 x.k, .int .i64 x.c, .int .u64 (x.a : Int), .int .u64 (x.b : Int), .slice D1 x.d.length dc1, .slice E1 x.m ec1] 43) = W := ⟨_, rfl⟩
  have HS : Hid (AsksRel w x D dc E ec D1 dc1 E1 ec1 W) := Lib.hid (by
    subst hW
    have hb := below_pair w (.cells #[.int .i64 x.k, .int .i64 x.c, .int .u64 (x.a : Int), .int .u64 (x.b : Int), .slice D x.d.length dc, .slice E x.m ec] 43) (.cells #[.int .i64 x.k, .int .i64 x.c, .int .u64 (x.a : Int), .int .u64 (x.b : Int), .slice D1 x.d.length dc1, .slice E1 x.m ec1] 43)
    exact ⟨(VarAt.made w _ _).below (al_below _ _), VarAt.made1 w _ _ _, h0.out.later hb, h1.out.later hb, hb⟩)
  have r0 := s0 W HS.out.below
  have r1 := s1 W HS.out.below
  have hml := h0.out.ml.2
  clear s0 s1
  go_enter Try.func16, Try.ntmps16
  go_upto_region 1 with fail
  try rw [hW]
  obtain ⟨z0, ⟨a0, a1, a2, a3, a4, a5⟩, _⟩ := HS.out.b0.six
  obtain ⟨z1, ⟨b0, b1, b2, b3, b4, b5⟩, _⟩ := HS.out.b1.six
  generalize strN x.d = T at r0 r1
  clear hW
  go_wp2_with fail
  go_loopw [5] (fun i wr => ∃ k : Nat, k ≤ x.m ∧ i = .int .i64 (k : Int) ∧ AsksRel w x D dc E ec D1 dc1 E1 ec1 wr) (fun i _ => x.m - (intOf i).toNat)
  case atStart => exact ⟨0, Nat.zero_le _, rfl, HS.out⟩
  case round =>
    clear a0 a1 a2 a3 a4 a5 b0 b1 b2 b3 b4 b5 r0 r1 z0 z1
    obtain ⟨k, hk, rfl, hrel⟩ := hrel
    have HR := Lib.hid hrel
    obtain ⟨z0, ⟨a0, a1, a2, a3, a4, a5⟩, _⟩ := hrel.b0.six
    obtain ⟨z1, ⟨b0, b1, b2, b3, b4, b5⟩, _⟩ := hrel.b1.six
    by_cases hlt : k < x.m
    · obtain ⟨g0, o0, rfl, l0, m0⟩ := hrel.p0.f.2 (by omega)
      obtain ⟨g1, o1, rfl, l1, m1⟩ := hrel.p1.f.2 (by omega)
      have x0 := m0 k hlt
      have x1 := m1 k hlt
      have i0 : (0 : Int) ≤ (k : Int) := by omega
      have i1 : (k : Int) < (x.m : Int) := by omega
      clear m0 m1 l0 l1 hrel
      go_wp2_with fail
      go_quiet (fail)
      go_wp2_with fail
      go_roundw
      case rel => exact ⟨k + 1, by omega, by go_num, HR.out.drewN nq⟩
      case measure => simp [intOf]; omega
    · obtain rfl : k = x.m := by omega
      clear hrel
      go_wp2_with fail
      go_ret
      exact ⟨rfl, HR.out.below⟩
set_option maxHeartbeats 1000000 in
theorem outs_same (is : Bool) (N S : Int) (w : World) : Calls Try.prog 17 #[.agg #[.int .i64 0, .bool is, .int .i64 N, .int .u64 S, .slice none 0 0], .agg #[.int .i64 0, .bool is, .int .i64 N, .int .u64 S, .slice none 0 0]] w (Kept w (.bool true)) := by
  cases is
  all_goals
    go_enter Try.func17, Try.ntmps17
    go_wp2_with fail
    go_loopw [5] (fun i wr => i = .int .i64 0 ∧ wr.cell? ⟨w.heap.size, 4, none⟩ = some (.slice none 0 0) ∧ Below w.heap.size w wr) (fun _ _ => 0)
    case atStart => exact ⟨rfl, by go_simp, (by repeat (first | with_reducible assumption | with_reducible exact Below.refl _ _ | with_reducible refine Below.drew ?_ | with_reducible refine below_al ?_ | (with_reducible refine below_set1 (by omega) _ ?_)))⟩
    case round =>
      obtain ⟨rfl, hc, hb⟩ := hrel
      have HB := Lib.hid hb
      clear hb
      go_wp2_with fail
      go_ret
      exact ⟨rfl, HB.out⟩

/-! ### The document's own cursor -/
abbrev curV (A : Option Addr) (n cap : Nat) (i : Int) (st : Bool) (q0 q1 q2 q3 q4 q5 : Value) : List Value := [.slice A n cap, .int .i64 i, .bool st, q0, q1, q2, q3, q4, q5]
def CurPost (w : World) (g : Nat) (N : Nat) (T : List Value) (e : Ending) (w' : World) : Prop :=
  ∃ B b bc fl, e = .returned (.agg #[.int .u64 (N : Int), .slice B b bc, .bool fl]) ∧ VarAt w' g T ∧ But g w w'
set_option maxHeartbeats 1000000 in
theorem refDo_stop (g : Nat) (A : Option Addr) (n cap : Nat) (q0 q1 q2 q3 q4 q5 : Value) (i : Int) (x : Acc) (D : Option Addr) (dc : Nat) (E : Option Addr) (ec : Nat) (w : World) (hT : Hid (VarAt w g (curV A n cap i true q0 q1 q2 q3 q4 q5))) :
    Calls Try.prog 38 #[.pointer (some ⟨g, 0, none⟩), .agg #[.int .i64 x.k, .int .i64 x.c, .int .u64 (x.a : Int), .int .u64 (x.b : Int), .slice D x.d.length dc, .slice E x.m ec]] w (CurPost w g 0 (curV A n cap i true q0 q1 q2 q3 q4 q5)) := by
  obtain ⟨hgz, ⟨c0, c1, c2, c3, c4, c5, c6, c7, c8⟩, f0, f1, f2, f3, f4, f5, f6, f7, f8⟩ := hT.out.nine
  have g1 : g < w.heap.size + 1 := by omega
  have g2 : g < w.heap.size + 1 + 1 := by omega
  have g3 : ¬ (g = w.heap.size) := by omega
  have g4 : ¬ (g = w.heap.size + 1) := by omega
  have g6 : ¬ (w.heap.size = g) := by omega
  have g7 : ¬ (w.heap.size + 1 = g) := by omega
  go_enter Try.func38, Try.ntmps38
  go_wp2_with fail
  exact bodyPost_ret (v := .agg #[.int .u64 0, .slice none 0 0, .bool false]) (by simp [results, Try.results38, go_sem]) rfl ⟨none, 0, 0, false, rfl, VarAt.mk9 (by simp; omega) (by go_simp) (by go_simp) (by go_simp) (by go_simp) (by go_simp) (by go_simp) (by go_simp) (by go_simp) (by go_simp) (by go_simp) (by go_simp) (by go_simp) (by go_simp) (by go_simp) (by go_simp) (by go_simp) (by go_simp) (by go_simp), (by repeat (first | with_reducible assumption | with_reducible exact But.refl _ _ | with_reducible refine But.drew ?_ | (with_reducible refine But.alloc ?_ _ (by omega)) | (with_reducible refine But.set ?_ _ _) | (with_reducible refine But.new ?_ _ _ _ (by omega) (by omega))))⟩
set_option maxHeartbeats 1000000 in
theorem refDo_left (g : Nat) (A : Option Addr) (n cap : Nat) (q0 q1 q2 q3 q4 q5 : Value) (hn : n ≤ 140737488355328) (x : Acc) (D : Option Addr) (dc : Nat) (E : Option Addr) (ec : Nat) (w : World) (hT : Hid (VarAt w g (curV A n cap (n : Int) false q0 q1 q2 q3 q4 q5))) :
    Calls Try.prog 38 #[.pointer (some ⟨g, 0, none⟩), .agg #[.int .i64 x.k, .int .i64 x.c, .int .u64 (x.a : Int), .int .u64 (x.b : Int), .slice D x.d.length dc, .slice E x.m ec]] w (CurPost w g 0 (curV A n cap (n : Int) true (.int .i64 x.k) (.int .i64 x.c) (.int .u64 (x.a : Int)) (.int .u64 (x.b : Int)) (.slice D x.d.length dc) (.slice E x.m ec))) := by
  obtain ⟨hgz, ⟨c0, c1, c2, c3, c4, c5, c6, c7, c8⟩, f0, f1, f2, f3, f4, f5, f6, f7, f8⟩ := hT.out.nine
  have g1 : g < w.heap.size + 1 := by omega
  have g2 : g < w.heap.size + 1 + 1 := by omega
  have g3 : ¬ (g = w.heap.size) := by omega
  have g4 : ¬ (g = w.heap.size + 1) := by omega
  have g6 : ¬ (w.heap.size = g) := by omega
  have g7 : ¬ (w.heap.size + 1 = g) := by omega
  have d1 : decide ((n : Int) < (n : Int)) = false := by rw [decide_eq_false_iff_not]; omega
  have d1' : decide (n < n) = false := by rw [decide_eq_false_iff_not]; omega
  go_enter Try.func38, Try.ntmps38
  go_wp2_with fail
  go_region
  all_goals
    go_wp2_with fail
    exact bodyPost_ret (v := .agg #[.int .u64 0, .slice none 0 0, .bool false]) (by simp [results, Try.results38, go_sem]) rfl ⟨none, 0, 0, false, rfl, VarAt.mk9 (by simp; omega) (by go_simp) (by go_simp) (by go_simp) (by go_simp) (by go_simp) (by go_simp) (by go_simp) (by go_simp) (by go_simp) (by go_simp) (by go_simp) (by go_simp) (by go_simp) (by go_simp) (by go_simp) (by go_simp) (by go_simp) (by go_simp), (by repeat (first | with_reducible assumption | with_reducible exact But.refl _ _ | with_reducible refine But.drew ?_ | (with_reducible refine But.alloc ?_ _ (by omega)) | (with_reducible refine But.set ?_ _ _) | (with_reducible refine But.new ?_ _ _ _ (by omega) (by omega))))⟩
set_option maxHeartbeats 1000000 in
theorem refDo_told (g : Nat) (A : Option Addr) (n cap : Nat) (q0 q1 q2 q3 q4 q5 : Value) (log : List Res) (j : Nat) (hj : j < n) (r : Res) (hr : log[j]? = some r) (x : Acc) (D : Option Addr) (dc : Nat) (E : Option Addr) (ec : Nat) (w0 w : World) (hL : Hid (LogAt w0 A n log)) (h0 : Hid (Below w0.heap.size w0 w)) (hg : w0.heap.size ≤ g) (hT : Hid (VarAt w g (curV A n cap (j : Int) false q0 q1 q2 q3 q4 q5))) :
    Calls Try.prog 38 #[.pointer (some ⟨g, 0, none⟩), .agg #[.int .i64 x.k, .int .i64 x.c, .int .u64 (x.a : Int), .int .u64 (x.b : Int), .slice D x.d.length dc, .slice E x.m ec]] w (CurPost w g r.n (curV A n cap ((j + 1 : Nat) : Int) false q0 q1 q2 q3 q4 q5)) := by
  have hn := hL.out.2.1
  obtain ⟨gb, go, B, bc, rfl, hlt0, hcl0, hrp⟩ := hL.out.at_ j r hr
  have hlt := Nat.lt_of_lt_of_le hlt0 h0.out.size
  obtain ⟨z0, z1, z2⟩ := hcl0.below h0.out hlt0
  have hne1 : ¬ (gb = g) := by omega
  have hne2 : ¬ (g = gb) := by omega
  obtain ⟨hgz, ⟨c0, c1, c2, c3, c4, c5, c6, c7, c8⟩, f0, f1, f2, f3, f4, f5, f6, f7, f8⟩ := hT.out.nine
  have g1 : g < w.heap.size + 1 := by omega
  have g2 : g < w.heap.size + 1 + 1 := by omega
  have g3 : ¬ (g = w.heap.size) := by omega
  have g4 : ¬ (g = w.heap.size + 1) := by omega
  have g6 : ¬ (w.heap.size = g) := by omega
  have g7 : ¬ (w.heap.size + 1 = g) := by omega
  have d1 : decide ((j : Int) < (n : Int)) = true := by rw [decide_eq_true_iff]; omega
  have d1' : decide (j < n) = true := by rw [decide_eq_true_iff]; omega
  have i1 : (0 : Int) ≤ (j : Int) := by omega
  have i2 : (j : Int) < (n : Int) := by omega
  have e1 : IntKind.i64.wrap ((j : Int) + 1) = ((j + 1 : Nat) : Int) := by rw [IntKind.wrap_i64]; omega
  have e2 : IntKind.i64.wrap (((j + 1 : Nat) : Int) - 1) = (j : Int) := by rw [IntKind.wrap_i64]; omega
  obtain ⟨q, hq⟩ : ∃ q : Nat, j + 1 = q := ⟨_, rfl⟩
  rw [hq] at e1 e2 ⊢
  have HQ := Lib.hid hq
  clear hlt0 hcl0 hg hr hrp hq hn
  go_enter Try.func38, Try.ntmps38
  go_wp2_with fail
  go_region
  all_goals
    go_wp2_with fail
    go_region
    all_goals
      go_wp2_with fail
      exact bodyPost_ret (v := .agg #[.int .u64 (r.n : Int), .slice B r.b.length bc, .bool r.fl]) (by simp [results, Try.results38, go_sem]) rfl ⟨B, r.b.length, bc, r.fl, rfl, VarAt.mk9 (by simp; omega) (by go_simp) (by go_simp) (by go_simp) (by go_simp) (by go_simp) (by go_simp) (by go_simp) (by go_simp) (by go_simp) (by go_simp) (by go_simp) (by go_simp) (by go_simp) (by go_simp) (by go_simp) (by go_simp) (by go_simp) (by go_simp), (by repeat (first | with_reducible assumption | with_reducible exact But.refl _ _ | with_reducible refine But.drew ?_ | (with_reducible refine But.alloc ?_ _ (by omega)) | (with_reducible refine But.set ?_ _ _) | (with_reducible refine But.new ?_ _ _ _ (by omega) (by omega))))⟩
set_option maxHeartbeats 1000000 in
theorem told_yes (g : Nat) (A : Option Addr) (n cap : Nat) (q0 q1 q2 q3 q4 q5 : Value) (i : Int) (is : Bool) (N S : Int) (w : World) (hT : Hid (VarAt w g (curV A n cap i false q0 q1 q2 q3 q4 q5))) :
    Calls Try.prog 39 #[.pointer (some ⟨g, 0, none⟩), .agg #[.int .i64 0, .bool is, .int .i64 N, .int .u64 S, .slice none 0 0]] w (Kept w (.tuple #[.agg #[.int .i64 0, .int .i64 0, .int .u64 0, .int .u64 0, .slice none 0 0, .slice none 0 0], .agg #[.int .i64 0, .bool is, .int .i64 N, .int .u64 S, .slice none 0 0], .bool true])) := by
  obtain ⟨hgz, ⟨c0, c1, c2, c3, c4, c5, c6, c7, c8⟩, f0, f1, f2, f3, f4, f5, f6, f7, f8⟩ := hT.out.nine
  have g1 : g < w.heap.size + 1 := by omega
  have g2 : g < w.heap.size + 1 + 1 := by omega
  have g3 : ¬ (g = w.heap.size) := by omega
  have g4 : ¬ (g = w.heap.size + 1) := by omega
  have g6 : ¬ (w.heap.size = g) := by omega
  have g7 : ¬ (w.heap.size + 1 = g) := by omega
  have g8 : g < w.heap.size + 1 + 1 + 1 := by omega
  have g9 : ¬ (g = w.heap.size + 1 + 1) := by omega
  go_enter Try.func39, Try.ntmps39
  go_wp2_with fail
  go_region
  all_goals
    go_wp2_with fail
    exact bodyPost_ret (v := .tuple #[.agg #[.int .i64 0, .int .i64 0, .int .u64 0, .int .u64 0, .slice none 0 0, .slice none 0 0], .agg #[.int .i64 0, .bool is, .int .i64 N, .int .u64 S, .slice none 0 0], .bool true]) (by simp [results, Try.results39, go_sem]) rfl ⟨rfl, (by repeat (first | with_reducible assumption | with_reducible exact Below.refl _ _ | with_reducible refine Below.drew ?_ | with_reducible refine below_al ?_ | (with_reducible refine below_set1 (by omega) _ ?_)))⟩
set_option maxHeartbeats 1000000 in
theorem told_no (g : Nat) (A : Option Addr) (n cap : Nat) (i : Int) (x : Acc) (D : Option Addr) (dc : Nat) (E : Option Addr) (ec : Nat) (is : Bool) (N S : Int) (w : World) (hT : Hid (VarAt w g (curV A n cap i true (.int .i64 x.k) (.int .i64 x.c) (.int .u64 (x.a : Int)) (.int .u64 (x.b : Int)) (.slice D x.d.length dc) (.slice E x.m ec)))) :
    Calls Try.prog 39 #[.pointer (some ⟨g, 0, none⟩), .agg #[.int .i64 0, .bool is, .int .i64 N, .int .u64 S, .slice none 0 0]] w (Kept w (.tuple #[.agg #[.int .i64 x.k, .int .i64 x.c, .int .u64 (x.a : Int), .int .u64 (x.b : Int), .slice D x.d.length dc, .slice E x.m ec], .agg #[.int .i64 0, .bool false, .int .i64 0, .int .u64 0, .slice none 0 0], .bool false])) := by
  obtain ⟨hgz, ⟨c0, c1, c2, c3, c4, c5, c6, c7, c8⟩, f0, f1, f2, f3, f4, f5, f6, f7, f8⟩ := hT.out.nine
  have g1 : g < w.heap.size + 1 := by omega
  have g2 : g < w.heap.size + 1 + 1 := by omega
  have g3 : ¬ (g = w.heap.size) := by omega
  have g4 : ¬ (g = w.heap.size + 1) := by omega
  have g6 : ¬ (w.heap.size = g) := by omega
  have g7 : ¬ (w.heap.size + 1 = g) := by omega
  have g8 : g < w.heap.size + 1 + 1 + 1 := by omega
  have g9 : ¬ (g = w.heap.size + 1 + 1) := by omega
  go_enter Try.func39, Try.ntmps39
  go_wp2_with fail
  exact bodyPost_ret (v := .tuple #[.agg #[.int .i64 x.k, .int .i64 x.c, .int .u64 (x.a : Int), .int .u64 (x.b : Int), .slice D x.d.length dc, .slice E x.m ec], .agg #[.int .i64 0, .bool false, .int .i64 0, .int .u64 0, .slice none 0 0], .bool false]) (by simp [results, Try.results39, go_sem]) rfl ⟨rfl, (by repeat (first | with_reducible assumption | with_reducible exact Below.refl _ _ | with_reducible refine Below.drew ?_ | with_reducible refine below_al ?_ | (with_reducible refine below_set1 (by omega) _ ?_)))⟩

/-! ### The document's own Line -/
def AskLeft (x : Acc) (w : World) (e : Ending) (w' : World) : Prop := ∃ D dc E ec, e = .returned (.tuple #[.agg #[.int .i64 x.k, .int .i64 x.c, .int .u64 (x.a : Int), .int .u64 (x.b : Int), .slice D x.d.length dc, .slice E x.m ec], .agg #[.int .i64 0, .bool false, .int .i64 0, .int .u64 0, .slice none 0 0], .bool false]) ∧ AccP w' x D dc E ec ∧ Below w.heap.size w w'
/-- Behind rounds: the cursor, the sum, the results' variables. -/
structure RefL (w : World) (T : List Value) (N : Int) (S : Nat) (y : World) : Prop where
  below : Below w.heap.size w y
  cur : VarAt y (w.heap.size + 1 + 1) T
  out : VarAt y (w.heap.size + 1 + 1 + 1) [.int .i64 0, .bool false, .int .i64 N, .int .u64 (S : Int), .slice none 0 0]
  r0 : VarAt y w.heap.size [.int .i64 0, .int .i64 0, .int .u64 0, .int .u64 0, .slice none 0 0, .slice none 0 0]
  r1 : VarAt y (w.heap.size + 1) [.int .i64 0, .bool false, .int .i64 0, .int .u64 0, .slice none 0 0]
theorem RefL.size {w : World} {T : List Value} {N : Int} {S : Nat} {y : World} (h : RefL w T N S y) : w.heap.size + 1 + 1 + 1 < y.heap.size := h.out.1
theorem RefL.drewN {w : World} {T : List Value} {N : Int} {S : Nat} {y : World} (h : RefL w T N S y) (n : Nat) : RefL w T N S (y.drewN n) := ⟨below_draw h.below n, h.cur.drewN n, h.out.drewN n, h.r0.drewN n, h.r1.drewN n⟩
/-- A round: the cursor's call, and the sum. -/
theorem RefL.next {w : World} {T T' : List Value} {N : Int} {S S' : Nat} {y y' : World} (h : RefL w T N S y) (hb : But (w.heap.size + 1 + 1) y y') (hc : VarAt y' (w.heap.size + 1 + 1) T') (o : Obj) :
    RefL w T' N S' ((y'.setCell ⟨w.heap.size + 1 + 1 + 1, 3, none⟩ (.int .u64 (S' : Int))).alloc o) := by
  have hs := h.size
  have hz := hb.size
  have al : ∀ (W : World) {b : Nat} {vs : List Value}, VarAt W b vs → VarAt (W.alloc o) b vs := fun W b vs hv => hv.below (al_below _ _)
  refine ⟨((h.below.trans (hb.below.mono (by omega))).setCell (show w.heap.size ≤ w.heap.size + 1 + 1 + 1 by omega) _).trans ((al_below _ o).mono ?_), al _ (hc.apart _ _ (by omega)), al _ ?_, al _ ((h.r0.but hb (by omega)).apart _ _ (by omega)), al _ ((h.r1.but hb (by omega)).apart _ _ (by omega))⟩
  · simp; omega
  · exact (h.out.but hb (by omega)).setAt 3 (.int .u64 (S' : Int)) (by simp)

set_option maxRecDepth 100000 in
set_option maxHeartbeats 4000000 in
theorem refLine_yes (L : Option Addr) (ln lc : Nat) (l : List Acc) (A : Option Addr) (n cap : Nat) (log : List Res) (hln : ln ≤ n) (w : World) (hL : Hid (AccsAt w L ln l)) (hA : Hid (LogAt w A n log)) :
    Calls Try.prog 15 #[.slice L ln lc, .slice A n cap] w (RunYes false (ln : Int) (sumR log ln : Int) w) := by
  have HLN := Lib.hid hln
  have hll : ln ≤ 140737488355328 := hL.out.2.1
  have hnn : n ≤ 140737488355328 := hA.out.2.1
  clear hln
  go_enter Try.func15, Try.ntmps15
  go_upto_region 4 with fail
  refine gen_w (P := fun W => Code.wp _ _ _ _ W) (fun y => RefL w (curV A n cap 0 false (.int .i64 0) (.int .i64 0) (.int .u64 0) (.int .u64 0) (.slice none 0 0) (.slice none 0 0)) (ln : Int) 0 y) ⟨(by repeat (first | with_reducible assumption | with_reducible exact Below.refl _ _ | with_reducible refine Below.drew ?_ | with_reducible refine below_al ?_ | (with_reducible refine below_set1 (by omega) _ ?_))), VarAt.mk9 (by simp <;> omega) (by go_simp) (by go_simp) (by go_simp) (by go_simp) (by go_simp) (by go_simp) (by go_simp) (by go_simp) (by go_simp) (by go_simp) (by go_simp) (by go_simp) (by go_simp) (by go_simp) (by go_simp) (by go_simp) (by go_simp) (by go_simp), VarAt.mk5 (by simp <;> omega) (by go_simp) (by go_simp) (by go_simp) (by go_simp) (by go_simp) (by go_simp) (by go_simp) (by go_simp) (by go_simp) (by go_simp), VarAt.mk6 (by simp <;> omega) (by go_simp) (by go_simp) (by go_simp) (by go_simp) (by go_simp) (by go_simp) (by go_simp) (by go_simp) (by go_simp) (by go_simp) (by go_simp) (by go_simp), VarAt.mk5 (by simp <;> omega) (by go_simp) (by go_simp) (by go_simp) (by go_simp) (by go_simp) (by go_simp) (by go_simp) (by go_simp) (by go_simp) (by go_simp)⟩ ?_
  intro y RUN0
  have RUN := Lib.hid RUN0
  clear RUN0
  go_loopw [9] (fun u9 wr => ∃ j : Nat, j ≤ ln ∧ u9 = .int .i64 (j : Int) ∧ RefL w (curV A n cap (j : Int) false (.int .i64 0) (.int .i64 0) (.int .u64 0) (.int .u64 0) (.slice none 0 0) (.slice none 0 0)) (ln : Int) (sumR log j) wr) (fun i _ => ln - (intOf i).toNat)
  case atStart => exact ⟨0, Nat.zero_le _, rfl, RUN.out⟩
  case round =>
    obtain ⟨j, hj1, rfl, hrun⟩ := hrel
    have HR := Lib.hid hrun
    clear hrun
    by_cases hlt : j < ln
    · have i1 : (0 : Int) ≤ (j : Int) := by omega
      have i2 : (j : Int) < (ln : Int) := by omega
      have d1 : decide ((j : Int) < (ln : Int)) = true := by rw [decide_eq_true_iff]; omega
      have d1' : decide (j < ln) = true := by rw [decide_eq_true_iff]; omega
      obtain ⟨x, hx⟩ : ∃ x, l[j]? = some x := ⟨_, List.getElem?_eq_getElem (show j < l.length by have := hL.out.1; omega)⟩
      obtain ⟨bl, ol, D, dc, E, ec, rfl, hbl, hcl0, hxp⟩ := hL.out.at_ j x hx
      have HX := Lib.hid hx
      have HXP := Lib.hid hxp
      clear hx hxp
      have hjn : j < n := by have := HLN.out; omega
      have HRL := HR
      have hcl := hcl0.below HRL.out.below hbl
      have hblr := Nat.lt_of_lt_of_le hbl HRL.out.below.size
      obtain ⟨e0, e1, e2, e3, e4, e5⟩ := hcl
      obtain ⟨r, hr⟩ : ∃ r, log[j]? = some r := ⟨_, List.getElem?_eq_getElem (show j < log.length by have := hA.out.1; omega)⟩
      have hgd : log.getD j Res.zero = r := by rw [List.getD_eq_getElem?_getD, hr]; rfl
      have hsl := sumR_lt log j
      have hrl : r.n < 18446744073709551616 := by obtain ⟨_, _, _, _, _, _, _, h⟩ := hA.out.at_ j r hr; exact h.n
      have hs : IntKind.u64.wrap ((sumR log j : Int) + (r.n : Int)) = (sumR log (j + 1) : Int) := by
        rw [IntKind.wrap_u64]
        show _ = (((sumR log j + (log.getD j Res.zero).n) % 18446744073709551616 : Nat) : Int)
        rw [hgd]
        omega
      have HDO := refDo_told (w.heap.size + 1 + 1) A n cap (.int .i64 0) (.int .i64 0) (.int .u64 0) (.int .u64 0) (.slice none 0 0) (.slice none 0 0) log j hjn r hr x D dc E ec w wr hA (Lib.hid HRL.out.below) (by omega) (Lib.hid HRL.out.cur)
      obtain ⟨s1, hs1⟩ : ∃ s, sumR log (j + 1) = s := ⟨_, rfl⟩
      rw [hs1] at hs
      have HS1 := Lib.hid hs1
      generalize sumR log j = s0 at *
      clear hcl0 hr hgd hsl hrl hs1
      have hsz := HRL.out.size
      go_wp2_with fail
      (with_reducible refine HDO.mono ?_)
      rintro e w4 ⟨B4, b4, bc4, fl4, rfl, hT4, hb4⟩
      have HB4 := Lib.hid hb4
      have HT4 := Lib.hid hT4
      have hsz4 := hb4.size
      obtain ⟨_, ⟨o0, o1, o2, o3, o4⟩, p0, p1, p2, p3, p4⟩ := (HRL.out.out.but hb4 (by omega)).five
      have m1 : w.heap.size + 1 + 1 + 1 < w4.heap.size := by omega
      have m2 : ¬ (w.heap.size + 1 + 1 + 1 = w4.heap.size) := by omega
      clear hT4 hb4 e0 e1 e2 e3 e4 e5
      go_wp2_with fail
      go_roundw
      case rel =>
        refine ⟨j + 1, by omega, by go_num, by rw [HS1.out]; exact HRL.out.next HB4.out HT4.out _⟩
      case measure => simp [intOf]; omega
    · have hje : j = ln := by omega
      subst hje
      have d1 : decide ((j : Int) < (j : Int)) = false := by rw [decide_eq_false_iff_not]; omega
      have d1' : decide (j < j) = false := by rw [decide_eq_false_iff_not]; omega
      have hb0 := HR.out.below
      have hsz := HR.out.size
      obtain ⟨_, ⟨o0, o1, o2, o3, o4⟩, _⟩ := HR.out.out.five
      have HTD := told_yes (w.heap.size + 1 + 1) A n cap (.int .i64 0) (.int .i64 0) (.int .u64 0) (.int .u64 0) (.slice none 0 0) (.slice none 0 0) (j : Int) false (j : Int) (sumR log j : Int) wr (Lib.hid HR.out.cur)
      generalize sumR log j = s0 at *
      go_wp2_with fail
      (with_reducible refine HTD.mono ?_)
      rintro e w4 ⟨rfl, hb4⟩
      have HB4 := Lib.hid (hb0.trans (hb4.mono hb0.size))
      obtain ⟨m1, ⟨a0, a1, a2, a3, a4, a5⟩, b0, b1, b2, b3, b4, b5⟩ := (HR.out.r0.below hb4).six
      obtain ⟨m2, ⟨r1, r2, r3, r4, r5⟩, s1, s2, s3, s4, s5⟩ := (HR.out.r1.below hb4).five
      clear hb4 hb0
      go_wp2_with fail
      have hb := HB4.out
      exact bodyPost_ret (v := .tuple #[.agg #[.int .i64 0, .int .i64 0, .int .u64 0, .int .u64 0, .slice none 0 0, .slice none 0 0], .agg #[.int .i64 0, .bool false, .int .i64 (j : Int), .int .u64 (s0 : Int), .slice none 0 0], .bool true]) (by simp [results, Try.results15, go_sem, a0, a1, a2, a3, a4, a5, r1, r2, r3, r4, r5]) rfl ⟨rfl, (by repeat (first | with_reducible assumption | with_reducible exact Below.refl _ _ | with_reducible refine Below.drew ?_ | with_reducible refine below_al ?_ | (with_reducible refine below_set1 (by omega) _ ?_)))⟩

set_option maxRecDepth 100000 in
set_option maxHeartbeats 4000000 in
theorem refLine_no (L : Option Addr) (ln lc : Nat) (l : List Acc) (A : Option Addr) (n cap : Nat) (log : List Res) (hln : n < ln) (w : World) (hL : Hid (AccsAt w L ln l)) (hA : Hid (LogAt w A n log)) :
    Calls Try.prog 15 #[.slice L ln lc, .slice A n cap] w (AskLeft (l.getD n Acc.zero) w) := by
  have HLN := Lib.hid hln
  have hll : ln ≤ 140737488355328 := hL.out.2.1
  have hnn : n ≤ 140737488355328 := hA.out.2.1
  clear hln
  go_enter Try.func15, Try.ntmps15
  go_upto_region 4 with fail
  refine gen_w (P := fun W => Code.wp _ _ _ _ W) (fun y => RefL w (curV A n cap 0 false (.int .i64 0) (.int .i64 0) (.int .u64 0) (.int .u64 0) (.slice none 0 0) (.slice none 0 0)) (ln : Int) 0 y) ⟨(by repeat (first | with_reducible assumption | with_reducible exact Below.refl _ _ | with_reducible refine Below.drew ?_ | with_reducible refine below_al ?_ | (with_reducible refine below_set1 (by omega) _ ?_))), VarAt.mk9 (by simp <;> omega) (by go_simp) (by go_simp) (by go_simp) (by go_simp) (by go_simp) (by go_simp) (by go_simp) (by go_simp) (by go_simp) (by go_simp) (by go_simp) (by go_simp) (by go_simp) (by go_simp) (by go_simp) (by go_simp) (by go_simp) (by go_simp), VarAt.mk5 (by simp <;> omega) (by go_simp) (by go_simp) (by go_simp) (by go_simp) (by go_simp) (by go_simp) (by go_simp) (by go_simp) (by go_simp) (by go_simp), VarAt.mk6 (by simp <;> omega) (by go_simp) (by go_simp) (by go_simp) (by go_simp) (by go_simp) (by go_simp) (by go_simp) (by go_simp) (by go_simp) (by go_simp) (by go_simp) (by go_simp), VarAt.mk5 (by simp <;> omega) (by go_simp) (by go_simp) (by go_simp) (by go_simp) (by go_simp) (by go_simp) (by go_simp) (by go_simp) (by go_simp) (by go_simp)⟩ ?_
  intro y RUN0
  have RUN := Lib.hid RUN0
  clear RUN0
  go_loopw [9] (fun u9 wr => ∃ j : Nat, j ≤ ln ∧ u9 = .int .i64 (j : Int) ∧ ((j ≤ n ∧ RefL w (curV A n cap (j : Int) false (.int .i64 0) (.int .i64 0) (.int .u64 0) (.int .u64 0) (.slice none 0 0) (.slice none 0 0)) (ln : Int) (sumR log j) wr) ∨ (n < j ∧ ∃ x0 D0 dc0 E0 ec0, l[n]? = some x0 ∧ AccP w x0 D0 dc0 E0 ec0 ∧ RefL w (curV A n cap (n : Int) true (.int .i64 x0.k) (.int .i64 x0.c) (.int .u64 (x0.a : Int)) (.int .u64 (x0.b : Int)) (.slice D0 x0.d.length dc0) (.slice E0 x0.m ec0)) (ln : Int) (sumR log n) wr))) (fun i _ => ln - (intOf i).toNat)
  case atStart => exact ⟨0, Nat.zero_le _, rfl, .inl ⟨Nat.zero_le _, RUN.out⟩⟩
  case round =>
    obtain ⟨j, hj1, rfl, hrun⟩ := hrel
    have HR := Lib.hid hrun
    clear hrun
    by_cases hlt : j < ln
    · have i1 : (0 : Int) ≤ (j : Int) := by omega
      have i2 : (j : Int) < (ln : Int) := by omega
      have d1 : decide ((j : Int) < (ln : Int)) = true := by rw [decide_eq_true_iff]; omega
      have d1' : decide (j < ln) = true := by rw [decide_eq_true_iff]; omega
      obtain ⟨x, hx⟩ : ∃ x, l[j]? = some x := ⟨_, List.getElem?_eq_getElem (show j < l.length by have := hL.out.1; omega)⟩
      obtain ⟨bl, ol, D, dc, E, ec, rfl, hbl, hcl0, hxp⟩ := hL.out.at_ j x hx
      have HX := Lib.hid hx
      have HXP := Lib.hid hxp
      clear hx hxp
      rcases HR.out with ⟨hjn0, h1⟩ | ⟨hjn0, x0, D0, dc0, E0, ec0, hx0, hp0, h1⟩
      · have HRL := Lib.hid h1
        clear h1 HR
        by_cases hjn : j < n
        · have hcl := hcl0.below HRL.out.below hbl
          have hblr := Nat.lt_of_lt_of_le hbl HRL.out.below.size
          obtain ⟨e0, e1, e2, e3, e4, e5⟩ := hcl
          obtain ⟨r, hr⟩ : ∃ r, log[j]? = some r := ⟨_, List.getElem?_eq_getElem (show j < log.length by have := hA.out.1; omega)⟩
          have hgd : log.getD j Res.zero = r := by rw [List.getD_eq_getElem?_getD, hr]; rfl
          have hsl := sumR_lt log j
          have hrl : r.n < 18446744073709551616 := by obtain ⟨_, _, _, _, _, _, _, h⟩ := hA.out.at_ j r hr; exact h.n
          have hs : IntKind.u64.wrap ((sumR log j : Int) + (r.n : Int)) = (sumR log (j + 1) : Int) := by
            rw [IntKind.wrap_u64]
            show _ = (((sumR log j + (log.getD j Res.zero).n) % 18446744073709551616 : Nat) : Int)
            rw [hgd]
            omega
          have HDO := refDo_told (w.heap.size + 1 + 1) A n cap (.int .i64 0) (.int .i64 0) (.int .u64 0) (.int .u64 0) (.slice none 0 0) (.slice none 0 0) log j hjn r hr x D dc E ec w wr hA (Lib.hid HRL.out.below) (by omega) (Lib.hid HRL.out.cur)
          obtain ⟨s1, hs1⟩ : ∃ s, sumR log (j + 1) = s := ⟨_, rfl⟩
          rw [hs1] at hs
          have HS1 := Lib.hid hs1
          generalize sumR log j = s0 at *
          clear hcl0 hr hgd hsl hrl hs1
          have hsz := HRL.out.size
          go_wp2_with fail
          (with_reducible refine HDO.mono ?_)
          rintro e w4 ⟨B4, b4, bc4, fl4, rfl, hT4, hb4⟩
          have HB4 := Lib.hid hb4
          have HT4 := Lib.hid hT4
          have hsz4 := hb4.size
          obtain ⟨_, ⟨o0, o1, o2, o3, o4⟩, p0, p1, p2, p3, p4⟩ := (HRL.out.out.but hb4 (by omega)).five
          have m1 : w.heap.size + 1 + 1 + 1 < w4.heap.size := by omega
          have m2 : ¬ (w.heap.size + 1 + 1 + 1 = w4.heap.size) := by omega
          clear hT4 hb4 e0 e1 e2 e3 e4 e5
          go_wp2_with fail
          go_roundw
          case rel =>
            refine ⟨j + 1, by omega, by go_num, .inl ⟨by omega, by rw [HS1.out]; exact HRL.out.next HB4.out HT4.out _⟩⟩
          case measure => simp [intOf]; omega
        · obtain rfl : j = n := by omega
          have hcl := hcl0.below HRL.out.below hbl
          have hblr := Nat.lt_of_lt_of_le hbl HRL.out.below.size
          obtain ⟨e0, e1, e2, e3, e4, e5⟩ := hcl
          have HDO := refDo_left (w.heap.size + 1 + 1) A j cap (.int .i64 0) (.int .i64 0) (.int .u64 0) (.int .u64 0) (.slice none 0 0) (.slice none 0 0) hnn x D dc E ec wr (Lib.hid HRL.out.cur)
          have hsl := sumR_lt log j
          have hs : IntKind.u64.wrap ((sumR log j : Int)) = (sumR log j : Int) := by
            rw [IntKind.wrap_u64]
            omega
          have hs' : IntKind.u64.wrap ((sumR log j : Int) + 0) = (sumR log j : Int) := by rw [Int.add_zero]; exact hs
          generalize sumR log j = s0 at *
          clear hcl0 hsl
          have hsz := HRL.out.size
          go_wp2_with fail
          (with_reducible refine HDO.mono ?_)
          rintro e w4 ⟨B4, b4, bc4, fl4, rfl, hT4, hb4⟩
          have HB4 := Lib.hid hb4
          have HT4 := Lib.hid hT4
          have hsz4 := hb4.size
          obtain ⟨_, ⟨o0, o1, o2, o3, o4⟩, p0, p1, p2, p3, p4⟩ := (HRL.out.out.but hb4 (by omega)).five
          have m1 : w.heap.size + 1 + 1 + 1 < w4.heap.size := by omega
          have m2 : ¬ (w.heap.size + 1 + 1 + 1 = w4.heap.size) := by omega
          clear hT4 hb4 e0 e1 e2 e3 e4 e5
          go_wp2_with fail
          go_roundw
          case rel =>
            refine ⟨j + 1, by omega, by go_num, .inr ⟨by omega, x, D, dc, E, ec, HX.out, HXP.out, HRL.out.next HB4.out HT4.out _⟩⟩
          case measure => simp [intOf]; omega
      · have HRL := Lib.hid h1
        have HX0 := Lib.hid hx0
        have HP0 := Lib.hid hp0
        clear h1 hx0 hp0 HR
        have hcl := hcl0.below HRL.out.below hbl
        have hblr := Nat.lt_of_lt_of_le hbl HRL.out.below.size
        obtain ⟨e0, e1, e2, e3, e4, e5⟩ := hcl
        have HDO := refDo_stop (w.heap.size + 1 + 1) A n cap (.int .i64 x0.k) (.int .i64 x0.c) (.int .u64 (x0.a : Int)) (.int .u64 (x0.b : Int)) (.slice D0 x0.d.length dc0) (.slice E0 x0.m ec0) (n : Int) x D dc E ec wr (Lib.hid HRL.out.cur)
        have hsl := sumR_lt log n
        have hs : IntKind.u64.wrap ((sumR log n : Int)) = (sumR log n : Int) := by
          rw [IntKind.wrap_u64]
          omega
        have hs' : IntKind.u64.wrap ((sumR log n : Int) + 0) = (sumR log n : Int) := by rw [Int.add_zero]; exact hs
        generalize sumR log n = s0 at *
        clear hcl0 hsl
        have hsz := HRL.out.size
        go_wp2_with fail
        (with_reducible refine HDO.mono ?_)
        rintro e w4 ⟨B4, b4, bc4, fl4, rfl, hT4, hb4⟩
        have HB4 := Lib.hid hb4
        have HT4 := Lib.hid hT4
        have hsz4 := hb4.size
        obtain ⟨_, ⟨o0, o1, o2, o3, o4⟩, p0, p1, p2, p3, p4⟩ := (HRL.out.out.but hb4 (by omega)).five
        have m1 : w.heap.size + 1 + 1 + 1 < w4.heap.size := by omega
        have m2 : ¬ (w.heap.size + 1 + 1 + 1 = w4.heap.size) := by omega
        clear hT4 hb4 e0 e1 e2 e3 e4 e5
        go_wp2_with fail
        go_roundw
        case rel =>
          refine ⟨j + 1, by omega, by go_num, .inr ⟨by omega, x0, D0, dc0, E0, ec0, HX0.out, HP0.out, HRL.out.next HB4.out HT4.out _⟩⟩
        case measure => simp [intOf]; omega
    · have hje : j = ln := by omega
      subst hje
      have d1 : decide ((j : Int) < (j : Int)) = false := by rw [decide_eq_false_iff_not]; omega
      have d1' : decide (j < j) = false := by rw [decide_eq_false_iff_not]; omega
      rcases HR.out with ⟨hjn0, h1⟩ | ⟨hjn0, x, D, dc, E, ec, hx, hp, h1⟩
      · exact absurd HLN.out (by omega)
      have HRL := Lib.hid h1
      have HXP := Lib.hid hp
      have hgd : l.getD n Acc.zero = x := by rw [List.getD_eq_getElem?_getD, hx]; rfl
      have HGD := Lib.hid hgd
      clear h1 hp hx hgd HR
      have hb0 := HRL.out.below
      have hsz := HRL.out.size
      obtain ⟨_, ⟨o0, o1, o2, o3, o4⟩, _⟩ := HRL.out.out.five
      have HTD := told_no (w.heap.size + 1 + 1) A n cap (n : Int) x D dc E ec false (j : Int) (sumR log n : Int) wr (Lib.hid HRL.out.cur)
      generalize sumR log n = s0 at *
      go_wp2_with fail
      (with_reducible refine HTD.mono ?_)
      rintro e w4 ⟨rfl, hb4⟩
      have HB4 := Lib.hid (hb0.trans (hb4.mono hb0.size))
      obtain ⟨m1, ⟨a0, a1, a2, a3, a4, a5⟩, b0, b1, b2, b3, b4, b5⟩ := (HRL.out.r0.below hb4).six
      obtain ⟨m2, ⟨r1, r2, r3, r4, r5⟩, s1, s2, s3, s4, s5⟩ := (HRL.out.r1.below hb4).five
      clear hb4 hb0
      go_wp2_with fail
      have hb := HB4.out
      exact bodyPost_ret (v := .tuple #[.agg #[.int .i64 x.k, .int .i64 x.c, .int .u64 (x.a : Int), .int .u64 (x.b : Int), .slice D x.d.length dc, .slice E x.m ec], .agg #[.int .i64 0, .bool false, .int .i64 0, .int .u64 0, .slice none 0 0], .bool false]) (by simp [results, Try.results15, go_sem, a0, a1, a2, a3, a4, a5, r1, r2, r3, r4, r5]) rfl (by rw [HGD.out]; exact ⟨D, dc, E, ec, rfl, HXP.out.later (by repeat (first | with_reducible assumption | with_reducible exact Below.refl _ _ | with_reducible refine Below.drew ?_ | with_reducible refine below_al ?_ | (with_reducible refine below_set1 (by omega) _ ?_))), (by repeat (first | with_reducible assumption | with_reducible exact Below.refl _ _ | with_reducible refine Below.drew ?_ | with_reducible refine below_al ?_ | (with_reducible refine below_set1 (by omega) _ ?_)))⟩)
end Go.Proofs.Ytjbhichgojjakaa
