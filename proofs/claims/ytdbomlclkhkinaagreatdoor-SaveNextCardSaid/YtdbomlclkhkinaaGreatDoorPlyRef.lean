/-
  The contracts of few, and of the document's own Asks, Outs, (*Cur).Do, (*Cur).Told and Line.
-/
import Derived.Test.YtdbomlclkhkinaaGreatDoorPlyLoop
namespace Go.Proofs.YtdbomlclkhkinaaGreatDoor
open Go.ChangeShapes Go.WideShapes Go.ChangeAt Go.RowKit Go.BigFrame
set_option linter.unusedVariables false
set_option maxRecDepth 100000

/-! ### few -/
def smallA (x : Acc) : Bool := decide (x.d.length ≤ 100) && decide (x.m ≤ 100)
def fewA (l : List Acc) (n most : Nat) : Bool := decide (n ≤ most) && l.all smallA
theorem few_mem {l : List Acc} {n most : Nat} (h : fewA l n most = true) : n ≤ most ∧ (∀ x ∈ l, x.d.length ≤ 100) ∧ ∀ x ∈ l, x.m ≤ 100 := by
  unfold fewA at h
  simp only [Bool.and_eq_true, decide_eq_true_eq, List.all_eq_true] at h
  refine ⟨h.1, fun x hx => ?_, fun x hx => ?_⟩
  all_goals
    have := h.2 x hx
    unfold smallA at this
    simp only [Bool.and_eq_true, decide_eq_true_eq] at this
    omega

/-! ### Asks and Outs, of the same -/
/-- Two accesses in boxes. -/
structure AsksRel (w : World) (x : Acc) (D : Option Addr) (dc : Nat) (E : Option Addr) (ec : Nat) (D1 : Option Addr) (dc1 : Nat) (E1 : Option Addr) (ec1 : Nat) (y : World) : Prop where
  b0 : VarAt y w.heap.size (accA x D dc E ec)
  b1 : VarAt y (w.heap.size + 1) (accA x D1 dc1 E1 ec1)
  p0 : AccP y x D dc E ec
  p1 : AccP y x D1 dc1 E1 ec1
  below : Below w.heap.size w y
theorem AsksRel.drewN {w y : World} {x : Acc} {D : Option Addr} {dc : Nat} {E : Option Addr} {ec : Nat} {D1 : Option Addr} {dc1 : Nat} {E1 : Option Addr} {ec1 : Nat} (h : AsksRel w x D dc E ec D1 dc1 E1 ec1 y) (n : Nat) : AsksRel w x D dc E ec D1 dc1 E1 ec1 (y.drewN n) :=
  ⟨h.b0, h.b1, h.p0.later (below_draw (Below.refl _ _) n), h.p1.later (below_draw (Below.refl _ _) n), below_draw h.below n⟩
set_option maxHeartbeats 1000000 in
theorem asks_same (x : Acc) (D : Option Addr) (dc : Nat) (E : Option Addr) (ec : Nat) (D1 : Option Addr) (dc1 : Nat) (E1 : Option Addr) (ec1 : Nat) (w : World) (h0 : Hid (AccP w x D dc E ec)) (h1 : Hid (AccP w x D1 dc1 E1 ec1)) :
    Calls Tryz.prog 9 #[.agg #[.int .i64 x.k, .int .i64 x.c, .int .u64 (x.a : Int), .int .u64 (x.b : Int), .slice D x.d.length dc, .slice E x.m ec], .agg #[.int .i64 x.k, .int .i64 x.c, .int .u64 (x.a : Int), .int .u64 (x.b : Int), .slice D1 x.d.length dc1, .slice E1 x.m ec1]] w (Kept w (.bool true)) := by
  have s0 := fun W (hb : Below w.heap.size w W) => run_str (AtB.later (Lib.hid h0.out.d) hb) dc
  have s1 := fun W (hb : Below w.heap.size w W) => run_str (AtB.later (Lib.hid h1.out.d) hb) dc1
  obtain ⟨W, hW⟩ : ∃ W, (w.alloc (.cells #[.int .i64 x.k, .int .i64 x.c, .int .u64 (x.a : Int), .int .u64 (x.b : Int), .slice D x.d.length dc, .slice E x.m ec] 34)).alloc (.cells #[.int .i64 x.k, .int .i64 x.c, .int .u64 (x.a : Int), .int .u64 (x.b : Int), .slice D1 x.d.length dc1, .slice E1 x.m ec1] 34) = W := ⟨_, rfl⟩
  have HS : Hid (AsksRel w x D dc E ec D1 dc1 E1 ec1 W) := Lib.hid (by
    subst hW
    have hb := below_pair w (.cells #[.int .i64 x.k, .int .i64 x.c, .int .u64 (x.a : Int), .int .u64 (x.b : Int), .slice D x.d.length dc, .slice E x.m ec] 34) (.cells #[.int .i64 x.k, .int .i64 x.c, .int .u64 (x.a : Int), .int .u64 (x.b : Int), .slice D1 x.d.length dc1, .slice E1 x.m ec1] 34)
    exact ⟨(VarAt.made w _ _).below (al_below _ _), VarAt.made1 w _ _ _, h0.out.later hb, h1.out.later hb, hb⟩)
  have r0 := s0 W HS.out.below
  have r1 := s1 W HS.out.below
  have hml := h0.out.ml.2
  clear s0 s1
  go_enter Tryz.func9, Tryz.ntmps9
  go_upto_region 1 with fail
  try rw [hW]
  obtain ⟨z0, ⟨a0, a1, a2, a3, a4, a5⟩, _⟩ := HS.out.b0.six
  obtain ⟨z1, ⟨b0, b1, b2, b3, b4, b5⟩, _⟩ := HS.out.b1.six
  generalize strN x.d = T at r0 r1
  clear hW
  go_wp2_with fail
  go_loopw [5] (fun i wr => ∃ k : Nat, k ≤ x.m ∧ i = .int .i64 (k : Int) ∧ AsksRel w x D dc E ec D1 dc1 E1 ec1 wr) (fun i _ => x.m - (intOf i).toNat)
  case atStart => exact ⟨0, Nat.zero_le _, rfl, HS.out⟩
  case round =>
    clear a0 a1 a2 a3 a4 a5 b0 b1 b2 b3 b4 b5 r0 r1 z0 z1
    obtain ⟨k, hk, rfl, hrel⟩ := hrel
    have HR := Lib.hid hrel
    obtain ⟨z0, ⟨a0, a1, a2, a3, a4, a5⟩, _⟩ := hrel.b0.six
    obtain ⟨z1, ⟨b0, b1, b2, b3, b4, b5⟩, _⟩ := hrel.b1.six
    by_cases hlt : k < x.m
    · obtain ⟨g0, o0, rfl, l0, m0⟩ := hrel.p0.f.2 (by omega)
      obtain ⟨g1, o1, rfl, l1, m1⟩ := hrel.p1.f.2 (by omega)
      have x0 := m0 k hlt
      have x1 := m1 k hlt
      have i0 : (0 : Int) ≤ (k : Int) := by omega
      have i1 : (k : Int) < (x.m : Int) := by omega
      clear m0 m1 l0 l1 hrel
      go_wp2_with fail
      go_quiet (fail)
      go_wp2_with fail
      go_roundw
      case rel => exact ⟨k + 1, by omega, by go_num, HR.out.drewN nq⟩
      case measure => simp [intOf]; omega
    · obtain rfl : k = x.m := by omega
      clear hrel
      go_wp2_with fail
      go_ret
      exact ⟨rfl, HR.out.below⟩
set_option maxHeartbeats 1000000 in
theorem outs_same (is : Bool) (N S : Int) (w : World) : Calls Tryz.prog 10 #[.agg #[.int .i64 0, .bool is, .int .i64 N, .int .u64 S, .slice none 0 0], .agg #[.int .i64 0, .bool is, .int .i64 N, .int .u64 S, .slice none 0 0]] w (Kept w (.bool true)) := by
  cases is
  all_goals
    go_enter Tryz.func10, Tryz.ntmps10
    go_wp2_with fail
    go_loopw [5] (fun i wr => i = .int .i64 0 ∧ wr.cell? ⟨w.heap.size, 4, none⟩ = some (.slice none 0 0) ∧ Below w.heap.size w wr) (fun _ _ => 0)
    case atStart => exact ⟨rfl, by go_simp, (by repeat (first | with_reducible assumption | with_reducible exact Below.refl _ _ | with_reducible refine Below.drew ?_ | with_reducible refine below_al ?_ | (with_reducible refine below_set1 (by omega) _ ?_)))⟩
    case round =>
      obtain ⟨rfl, hc, hb⟩ := hrel
      have HB := Lib.hid hb
      clear hb
      go_wp2_with fail
      go_ret
      exact ⟨rfl, HB.out⟩

/-! ### The document's own cursor -/
abbrev curV (A : Option Addr) (n cap : Nat) (i : Int) (st : Bool) (q0 q1 q2 q3 q4 q5 : Value) : List Value := [.slice A n cap, .int .i64 i, .bool st, q0, q1, q2, q3, q4, q5]
def CurPost (w : World) (g : Nat) (N : Nat) (T : List Value) (e : Ending) (w' : World) : Prop :=
  ∃ B b bc fl, e = .returned (.agg #[.int .u64 (N : Int), .slice B b bc, .bool fl]) ∧ VarAt w' g T ∧ But g w w'
set_option maxHeartbeats 1000000 in
theorem refDo_stop (g : Nat) (A : Option Addr) (n cap : Nat) (q0 q1 q2 q3 q4 q5 : Value) (i : Int) (x : Acc) (D : Option Addr) (dc : Nat) (E : Option Addr) (ec : Nat) (w : World) (hT : Hid (VarAt w g (curV A n cap i true q0 q1 q2 q3 q4 q5))) :
    Calls Tryz.prog 65 #[.pointer (some ⟨g, 0, none⟩), .agg #[.int .i64 x.k, .int .i64 x.c, .int .u64 (x.a : Int), .int .u64 (x.b : Int), .slice D x.d.length dc, .slice E x.m ec]] w (CurPost w g 0 (curV A n cap i true q0 q1 q2 q3 q4 q5)) := by
  obtain ⟨hgz, ⟨c0, c1, c2, c3, c4, c5, c6, c7, c8⟩, f0, f1, f2, f3, f4, f5, f6, f7, f8⟩ := hT.out.nine
  have g1 : g < w.heap.size + 1 := by omega
  have g2 : g < w.heap.size + 1 + 1 := by omega
  have g3 : ¬ (g = w.heap.size) := by omega
  have g4 : ¬ (g = w.heap.size + 1) := by omega
  have g6 : ¬ (w.heap.size = g) := by omega
  have g7 : ¬ (w.heap.size + 1 = g) := by omega
  go_enter Tryz.func65, Tryz.ntmps65
  go_wp2_with fail
  exact bodyPost_ret (v := .agg #[.int .u64 0, .slice none 0 0, .bool false]) (by simp [results, Tryz.results65, go_sem]) rfl ⟨none, 0, 0, false, rfl, VarAt.mk9 (by simp; omega) (by go_simp) (by go_simp) (by go_simp) (by go_simp) (by go_simp) (by go_simp) (by go_simp) (by go_simp) (by go_simp) (by go_simp) (by go_simp) (by go_simp) (by go_simp) (by go_simp) (by go_simp) (by go_simp) (by go_simp) (by go_simp), (by repeat (first | with_reducible assumption | with_reducible exact But.refl _ _ | with_reducible refine But.drew ?_ | (with_reducible refine But.alloc ?_ _ (by omega)) | (with_reducible refine But.set ?_ _ _) | (with_reducible refine But.new ?_ _ _ _ (by omega) (by omega))))⟩
set_option maxHeartbeats 1000000 in
theorem refDo_left (g : Nat) (A : Option Addr) (n cap : Nat) (q0 q1 q2 q3 q4 q5 : Value) (hn : n ≤ 140737488355328) (x : Acc) (D : Option Addr) (dc : Nat) (E : Option Addr) (ec : Nat) (w : World) (hT : Hid (VarAt w g (curV A n cap (n : Int) false q0 q1 q2 q3 q4 q5))) :
    Calls Tryz.prog 65 #[.pointer (some ⟨g, 0, none⟩), .agg #[.int .i64 x.k, .int .i64 x.c, .int .u64 (x.a : Int), .int .u64 (x.b : Int), .slice D x.d.length dc, .slice E x.m ec]] w (CurPost w g 0 (curV A n cap (n : Int) true (.int .i64 x.k) (.int .i64 x.c) (.int .u64 (x.a : Int)) (.int .u64 (x.b : Int)) (.slice D x.d.length dc) (.slice E x.m ec))) := by
  obtain ⟨hgz, ⟨c0, c1, c2, c3, c4, c5, c6, c7, c8⟩, f0, f1, f2, f3, f4, f5, f6, f7, f8⟩ := hT.out.nine
  have g1 : g < w.heap.size + 1 := by omega
  have g2 : g < w.heap.size + 1 + 1 := by omega
  have g3 : ¬ (g = w.heap.size) := by omega
  have g4 : ¬ (g = w.heap.size + 1) := by omega
  have g6 : ¬ (w.heap.size = g) := by omega
  have g7 : ¬ (w.heap.size + 1 = g) := by omega
  have d1 : decide ((n : Int) < (n : Int)) = false := by rw [decide_eq_false_iff_not]; omega
  have d1' : decide (n < n) = false := by rw [decide_eq_false_iff_not]; omega
  go_enter Tryz.func65, Tryz.ntmps65
  go_wp2_with fail
  go_region
  all_goals
    go_wp2_with fail
    exact bodyPost_ret (v := .agg #[.int .u64 0, .slice none 0 0, .bool false]) (by simp [results, Tryz.results65, go_sem]) rfl ⟨none, 0, 0, false, rfl, VarAt.mk9 (by simp; omega) (by go_simp) (by go_simp) (by go_simp) (by go_simp) (by go_simp) (by go_simp) (by go_simp) (by go_simp) (by go_simp) (by go_simp) (by go_simp) (by go_simp) (by go_simp) (by go_simp) (by go_simp) (by go_simp) (by go_simp) (by go_simp), (by repeat (first | with_reducible assumption | with_reducible exact But.refl _ _ | with_reducible refine But.drew ?_ | (with_reducible refine But.alloc ?_ _ (by omega)) | (with_reducible refine But.set ?_ _ _) | (with_reducible refine But.new ?_ _ _ _ (by omega) (by omega))))⟩
set_option maxHeartbeats 1000000 in
theorem refDo_told (g : Nat) (A : Option Addr) (n cap : Nat) (q0 q1 q2 q3 q4 q5 : Value) (log : List Res) (j : Nat) (hj : j < n) (r : Res) (hr : log[j]? = some r) (x : Acc) (D : Option Addr) (dc : Nat) (E : Option Addr) (ec : Nat) (w0 w : World) (hL : Hid (LogAt w0 A n log)) (h0 : Hid (Below w0.heap.size w0 w)) (hg : w0.heap.size ≤ g) (hT : Hid (VarAt w g (curV A n cap (j : Int) false q0 q1 q2 q3 q4 q5))) :
    Calls Tryz.prog 65 #[.pointer (some ⟨g, 0, none⟩), .agg #[.int .i64 x.k, .int .i64 x.c, .int .u64 (x.a : Int), .int .u64 (x.b : Int), .slice D x.d.length dc, .slice E x.m ec]] w (CurPost w g r.n (curV A n cap ((j + 1 : Nat) : Int) false q0 q1 q2 q3 q4 q5)) := by
  have hn := hL.out.2.1
  obtain ⟨gb, go, B, bc, rfl, hlt0, hcl0, hrp⟩ := hL.out.at_ j r hr
  have hlt := Nat.lt_of_lt_of_le hlt0 h0.out.size
  obtain ⟨z0, z1, z2⟩ := hcl0.below h0.out hlt0
  have hne1 : ¬ (gb = g) := by omega
  have hne2 : ¬ (g = gb) := by omega
  obtain ⟨hgz, ⟨c0, c1, c2, c3, c4, c5, c6, c7, c8⟩, f0, f1, f2, f3, f4, f5, f6, f7, f8⟩ := hT.out.nine
  have g1 : g < w.heap.size + 1 := by omega
  have g2 : g < w.heap.size + 1 + 1 := by omega
  have g3 : ¬ (g = w.heap.size) := by omega
  have g4 : ¬ (g = w.heap.size + 1) := by omega
  have g6 : ¬ (w.heap.size = g) := by omega
  have g7 : ¬ (w.heap.size + 1 = g) := by omega
  have d1 : decide ((j : Int) < (n : Int)) = true := by rw [decide_eq_true_iff]; omega
  have d1' : decide (j < n) = true := by rw [decide_eq_true_iff]; omega
  have i1 : (0 : Int) ≤ (j : Int) := by omega
  have i2 : (j : Int) < (n : Int) := by omega
  have e1 : IntKind.i64.wrap ((j : Int) + 1) = ((j + 1 : Nat) : Int) := by rw [IntKind.wrap_i64]; omega
  have e2 : IntKind.i64.wrap (((j + 1 : Nat) : Int) - 1) = (j : Int) := by rw [IntKind.wrap_i64]; omega
  obtain ⟨q, hq⟩ : ∃ q : Nat, j + 1 = q := ⟨_, rfl⟩
  rw [hq] at e1 e2 ⊢
  have HQ := Lib.hid hq
  clear hlt0 hcl0 hg hr hrp hq hn
  go_enter Tryz.func65, Tryz.ntmps65
  go_wp2_with fail
  go_region
  all_goals
    go_wp2_with fail
    go_region
    all_goals
      go_wp2_with fail
      exact bodyPost_ret (v := .agg #[.int .u64 (r.n : Int), .slice B r.b.length bc, .bool r.fl]) (by simp [results, Tryz.results65, go_sem]) rfl ⟨B, r.b.length, bc, r.fl, rfl, VarAt.mk9 (by simp; omega) (by go_simp) (by go_simp) (by go_simp) (by go_simp) (by go_simp) (by go_simp) (by go_simp) (by go_simp) (by go_simp) (by go_simp) (by go_simp) (by go_simp) (by go_simp) (by go_simp) (by go_simp) (by go_simp) (by go_simp) (by go_simp), (by repeat (first | with_reducible assumption | with_reducible exact But.refl _ _ | with_reducible refine But.drew ?_ | (with_reducible refine But.alloc ?_ _ (by omega)) | (with_reducible refine But.set ?_ _ _) | (with_reducible refine But.new ?_ _ _ _ (by omega) (by omega))))⟩
set_option maxHeartbeats 1000000 in
theorem told_yes (g : Nat) (A : Option Addr) (n cap : Nat) (q0 q1 q2 q3 q4 q5 : Value) (i : Int) (is : Bool) (N S : Int) (w : World) (hT : Hid (VarAt w g (curV A n cap i false q0 q1 q2 q3 q4 q5))) :
    Calls Tryz.prog 22 #[.pointer (some ⟨g, 0, none⟩), .agg #[.int .i64 0, .bool is, .int .i64 N, .int .u64 S, .slice none 0 0]] w (Kept w (.tuple #[.agg #[.int .i64 0, .int .i64 0, .int .u64 0, .int .u64 0, .slice none 0 0, .slice none 0 0], .agg #[.int .i64 0, .bool is, .int .i64 N, .int .u64 S, .slice none 0 0], .bool true])) := by
  obtain ⟨hgz, ⟨c0, c1, c2, c3, c4, c5, c6, c7, c8⟩, f0, f1, f2, f3, f4, f5, f6, f7, f8⟩ := hT.out.nine
  have g1 : g < w.heap.size + 1 := by omega
  have g2 : g < w.heap.size + 1 + 1 := by omega
  have g3 : ¬ (g = w.heap.size) := by omega
  have g4 : ¬ (g = w.heap.size + 1) := by omega
  have g6 : ¬ (w.heap.size = g) := by omega
  have g7 : ¬ (w.heap.size + 1 = g) := by omega
  have g8 : g < w.heap.size + 1 + 1 + 1 := by omega
  have g9 : ¬ (g = w.heap.size + 1 + 1) := by omega
  go_enter Tryz.func22, Tryz.ntmps22
  go_wp2_with fail
  go_region
  all_goals
    go_wp2_with fail
    exact bodyPost_ret (v := .tuple #[.agg #[.int .i64 0, .int .i64 0, .int .u64 0, .int .u64 0, .slice none 0 0, .slice none 0 0], .agg #[.int .i64 0, .bool is, .int .i64 N, .int .u64 S, .slice none 0 0], .bool true]) (by simp [results, Tryz.results22, go_sem]) rfl ⟨rfl, (by repeat (first | with_reducible assumption | with_reducible exact Below.refl _ _ | with_reducible refine Below.drew ?_ | with_reducible refine below_al ?_ | (with_reducible refine below_set1 (by omega) _ ?_)))⟩
set_option maxHeartbeats 1000000 in
theorem told_no (g : Nat) (A : Option Addr) (n cap : Nat) (i : Int) (x : Acc) (D : Option Addr) (dc : Nat) (E : Option Addr) (ec : Nat) (is : Bool) (N S : Int) (w : World) (hT : Hid (VarAt w g (curV A n cap i true (.int .i64 x.k) (.int .i64 x.c) (.int .u64 (x.a : Int)) (.int .u64 (x.b : Int)) (.slice D x.d.length dc) (.slice E x.m ec)))) :
    Calls Tryz.prog 22 #[.pointer (some ⟨g, 0, none⟩), .agg #[.int .i64 0, .bool is, .int .i64 N, .int .u64 S, .slice none 0 0]] w (Kept w (.tuple #[.agg #[.int .i64 x.k, .int .i64 x.c, .int .u64 (x.a : Int), .int .u64 (x.b : Int), .slice D x.d.length dc, .slice E x.m ec], .agg #[.int .i64 0, .bool false, .int .i64 0, .int .u64 0, .slice none 0 0], .bool false])) := by
  obtain ⟨hgz, ⟨c0, c1, c2, c3, c4, c5, c6, c7, c8⟩, f0, f1, f2, f3, f4, f5, f6, f7, f8⟩ := hT.out.nine
  have g1 : g < w.heap.size + 1 := by omega
  have g2 : g < w.heap.size + 1 + 1 := by omega
  have g3 : ¬ (g = w.heap.size) := by omega
  have g4 : ¬ (g = w.heap.size + 1) := by omega
  have g6 : ¬ (w.heap.size = g) := by omega
  have g7 : ¬ (w.heap.size + 1 = g) := by omega
  have g8 : g < w.heap.size + 1 + 1 + 1 := by omega
  have g9 : ¬ (g = w.heap.size + 1 + 1) := by omega
  go_enter Tryz.func22, Tryz.ntmps22
  go_wp2_with fail
  exact bodyPost_ret (v := .tuple #[.agg #[.int .i64 x.k, .int .i64 x.c, .int .u64 (x.a : Int), .int .u64 (x.b : Int), .slice D x.d.length dc, .slice E x.m ec], .agg #[.int .i64 0, .bool false, .int .i64 0, .int .u64 0, .slice none 0 0], .bool false]) (by simp [results, Tryz.results22, go_sem]) rfl ⟨rfl, (by repeat (first | with_reducible assumption | with_reducible exact Below.refl _ _ | with_reducible refine Below.drew ?_ | with_reducible refine below_al ?_ | (with_reducible refine below_set1 (by omega) _ ?_)))⟩

/-! ### The document's own Line -/
def AskLeft (x : Acc) (w : World) (e : Ending) (w' : World) : Prop := ∃ D dc E ec, e = .returned (.tuple #[.agg #[.int .i64 x.k, .int .i64 x.c, .int .u64 (x.a : Int), .int .u64 (x.b : Int), .slice D x.d.length dc, .slice E x.m ec], .agg #[.int .i64 0, .bool false, .int .i64 0, .int .u64 0, .slice none 0 0], .bool false]) ∧ AccP w' x D dc E ec ∧ Below w.heap.size w w'
/-- Behind rounds: the cursor, the sum, the results' variables. -/
structure RefL (w : World) (T : List Value) (N : Int) (S : Nat) (y : World) : Prop where
  below : Below w.heap.size w y
  cur : VarAt y (w.heap.size + 1 + 1) T
  out : VarAt y (w.heap.size + 1 + 1 + 1) [.int .i64 0, .bool false, .int .i64 N, .int .u64 (S : Int), .slice none 0 0]
  r0 : VarAt y w.heap.size [.int .i64 0, .int .i64 0, .int .u64 0, .int .u64 0, .slice none 0 0, .slice none 0 0]
  r1 : VarAt y (w.heap.size + 1) [.int .i64 0, .bool false, .int .i64 0, .int .u64 0, .slice none 0 0]
theorem RefL.size {w : World} {T : List Value} {N : Int} {S : Nat} {y : World} (h : RefL w T N S y) : w.heap.size + 1 + 1 + 1 < y.heap.size := h.out.1
theorem RefL.drewN {w : World} {T : List Value} {N : Int} {S : Nat} {y : World} (h : RefL w T N S y) (n : Nat) : RefL w T N S (y.drewN n) := ⟨below_draw h.below n, h.cur.drewN n, h.out.drewN n, h.r0.drewN n, h.r1.drewN n⟩
/-- A round: the cursor's call, and the sum. -/
theorem RefL.next {w : World} {T T' : List Value} {N : Int} {S S' : Nat} {y y' : World} (h : RefL w T N S y) (hb : But (w.heap.size + 1 + 1) y y') (hc : VarAt y' (w.heap.size + 1 + 1) T') (o : Obj) :
    RefL w T' N S' ((y'.setCell ⟨w.heap.size + 1 + 1 + 1, 3, none⟩ (.int .u64 (S' : Int))).alloc o) := by
  have hs := h.size
  have hz := hb.size
  have al : ∀ (W : World) {b : Nat} {vs : List Value}, VarAt W b vs → VarAt (W.alloc o) b vs := fun W b vs hv => hv.below (al_below _ _)
  refine ⟨((h.below.trans (hb.below.mono (by omega))).setCell (show w.heap.size ≤ w.heap.size + 1 + 1 + 1 by omega) _).trans ((al_below _ o).mono ?_), al _ (hc.apart _ _ (by omega)), al _ ?_, al _ ((h.r0.but hb (by omega)).apart _ _ (by omega)), al _ ((h.r1.but hb (by omega)).apart _ _ (by omega))⟩
  · simp; omega
  · exact (h.out.but hb (by omega)).setAt 3 (.int .u64 (S' : Int)) (by simp)

end Go.Proofs.YtdbomlclkhkinaaGreatDoor
