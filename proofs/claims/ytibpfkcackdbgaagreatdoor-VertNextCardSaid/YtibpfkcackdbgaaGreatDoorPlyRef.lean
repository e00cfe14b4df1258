/- PlyRef -/
import Derived.Test.YtibpfkcackdbgaaGreatDoorPlyA
namespace Go.Proofs.YtibpfkcackdbgaaGreatDoor
open Go.ChangeShapes Go.WideShapes Go.ChangeAt Go.RowKit Go.BigFrame
set_option linter.unusedVariables false
set_option maxRecDepth 100000
structure AsksRel (w : World) (x : Acc) (D : Option Addr) (dc : Nat) (E : Option Addr) (ec : Nat) (D1 : Option Addr) (dc1 : Nat) (E1 : Option Addr) (ec1 : Nat) (y : World) : Prop where
 b0 : VarAt y w.heap.size (accA x D dc E ec)
 b1 : VarAt y (w.heap.size + 1) (accA x D1 dc1 E1 ec1)
 p0 : AccP y x D dc E ec
 p1 : AccP y x D1 dc1 E1 ec1
 below : Below w.heap.size w y
theorem AsksRel.drewN {w y : World} {x : Acc} {D : Option Addr} {dc : Nat} {E : Option Addr} {ec : Nat} {D1 : Option Addr} {dc1 : Nat} {E1 : Option Addr} {ec1 : Nat} (h : AsksRel w x D dc E ec D1 dc1 E1 ec1 y) (n : Nat) : AsksRel w x D dc E ec D1 dc1 E1 ec1 (y.drewN n) :=
 ⟨h.b0, h.b1, h.p0.later (below_draw (Below.refl _ _) n), h.p1.later (below_draw (Below.refl _ _) n), below_draw h.below n⟩
set_option maxHeartbeats 1000000 in
theorem asks_same (x : Acc) (D : Option Addr) (dc : Nat) (E : Option Addr) (ec : Nat) (D1 : Option Addr) (dc1 : Nat) (E1 : Option Addr) (ec1 : Nat) (w : World) (h0 : Hid (AccP w x D dc E ec)) (h1 : Hid (AccP w x D1 dc1 E1 ec1)) :
  Calls Tryz.prog 32 #[.agg #[.int .i64 x.k, .int .i64 x.c, .int .u64 (x.a : Int), .int .u64 (x.b : Int), .slice D x.d.length dc, .slice E x.m ec], .agg #[.int .i64 x.k, .int .i64 x.c, .int .u64 (x.a : Int), .int .u64 (x.b : Int), .slice D1 x.d.length dc1, .slice E1 x.m ec1]] w (Kept w (.bool true)) := by
 have s0 := fun W (hb : Below w.heap.size w W) => run_str (AtB.later (Lib.hid h0.out.d) hb) dc
 have s1 := fun W (hb : Below w.heap.size w W) => run_str (AtB.later (Lib.hid h1.out.d) hb) dc1
 obtain ⟨W, hW⟩ : ∃ W, (w.alloc (.cells #[.int .i64 x.k, .int .i64 x.c, .int .u64 (x.a : Int), .int .u64 (x.b : Int), .slice D x.d.length dc, .slice E x.m ec] 70)).alloc (.cells #[.int .i64 x.k, .int .i64 x.c, .int .u64 (x.a : Int), .int .u64 (x.b : Int), .slice D1 x.d.length dc1, .slice E1 x.m ec1] 70) = W := ⟨_, rfl⟩
 have HS : Hid (AsksRel w x D dc E ec D1 dc1 E1 ec1 W) := Lib.hid (by
  subst hW
  have hb := below_pair w (.cells #[.int .i64 x.k, .int .i64 x.c, .int .u64 (x.a : Int), .int .u64 (x.b : Int), .slice D x.d.length dc, .slice E x.m ec] 70) (.cells #[.int .i64 x.k, .int .i64 x.c, .int .u64 (x.a : Int), .int .u64 (x.b : Int), .slice D1 x.d.length dc1, .slice E1 x.m ec1] 70)
  exact ⟨(VarAt.made w _ _).below (al_below _ _), VarAt.made1 w _ _ _, h0.out.later hb, h1.out.later hb, hb⟩)
 have r0 := s0 W HS.out.below
 have r1 := s1 W HS.out.below
 have hml := h0.out.ml.2
 clear s0 s1
 go_enter Tryz.func32, Tryz.ntmps32
 go_upto_region 1 with fail
 try rw [hW]
 obtain ⟨z0, ⟨a0, a1, a2, a3, a4, a5⟩, _⟩ := HS.out.b0.six
 obtain ⟨z1, ⟨b0, b1, b2, b3, b4, b5⟩, _⟩ := HS.out.b1.six
 generalize strN x.d = T at r0 r1
 clear hW
 go_wp2_with fail
 go_loopw [5] (fun i wr => ∃ k : Nat, k ≤ x.m ∧ i = .int .i64 (k : Int) ∧ AsksRel w x D dc E ec D1 dc1 E1 ec1 wr) (fun i _ => x.m - (intOf i).toNat)
 case atStart => exact ⟨0, Nat.zero_le _, rfl, HS.out⟩
 case round =>
  clear a0 a1 a2 a3 a4 a5 b0 b1 b2 b3 b4 b5 r0 r1 z0 z1
  obtain ⟨k, hk, rfl, hrel⟩ := hrel
  have HR := Lib.hid hrel
  obtain ⟨z0, ⟨a0, a1, a2, a3, a4, a5⟩, _⟩ := hrel.b0.six
  obtain ⟨z1, ⟨b0, b1, b2, b3, b4, b5⟩, _⟩ := hrel.b1.six
  by_cases hlt : k < x.m
  ·obtain ⟨g0, o0, rfl, l0, m0⟩ := hrel.p0.f.2 (by omega)
   obtain ⟨g1, o1, rfl, l1, m1⟩ := hrel.p1.f.2 (by omega)
   have x0 := m0 k hlt
   have x1 := m1 k hlt
   have i0 : (0 : Int) ≤ (k : Int) := by omega
   have i1 : (k : Int) < (x.m : Int) := by omega
   clear m0 m1 l0 l1 hrel
   go_wp2_with fail
   go_quiet (fail)
   go_wp2_with fail
   go_roundw
   case rel => exact ⟨k + 1, by omega, by go_num, HR.out.drewN nq⟩
   case measure => simp [intOf]; omega
  ·obtain rfl : k = x.m := by omega
   clear hrel
   go_wp2_with fail
   go_ret
   exact ⟨rfl, HR.out.below⟩
abbrev curV (A : Option Addr) (n cap : Nat) (i : Int) (st : Bool) (q0 q1 q2 q3 q4 q5 : Value) : List Value := [.slice A n cap, .int .i64 i, .bool st, q0, q1, q2, q3, q4, q5]
structure RefL (w : World) (T : List Value) (N : Int) (S : Nat) (y : World) : Prop where
 below : Below w.heap.size w y
 cur : VarAt y (w.heap.size + 1 + 1) T
 out : VarAt y (w.heap.size + 1 + 1 + 1) [.int .i64 0, .bool false, .int .i64 N, .int .u64 (S : Int), .slice none 0 0]
 r0 : VarAt y w.heap.size [.int .i64 0, .int .i64 0, .int .u64 0, .int .u64 0, .slice none 0 0, .slice none 0 0]
 r1 : VarAt y (w.heap.size + 1) [.int .i64 0, .bool false, .int .i64 0, .int .u64 0, .slice none 0 0]
theorem RefL.size {w : World} {T : List Value} {N : Int} {S : Nat} {y : World} (h : RefL w T N S y) : w.heap.size + 1 + 1 + 1 < y.heap.size := h.out.1
theorem RefL.drewN {w : World} {T : List Value} {N : Int} {S : Nat} {y : World} (h : RefL w T N S y) (n : Nat) : RefL w T N S (y.drewN n) := ⟨below_draw h.below n, h.cur.drewN n, h.out.drewN n, h.r0.drewN n, h.r1.drewN n⟩
theorem RefL.next {w : World} {T T' : List Value} {N : Int} {S S' : Nat} {y y' : World} (h : RefL w T N S y) (hb : But (w.heap.size + 1 + 1) y y') (hc : VarAt y' (w.heap.size + 1 + 1) T') (o : Obj) :
  RefL w T' N S' ((y'.setCell ⟨w.heap.size + 1 + 1 + 1, 3, none⟩ (.int .u64 (S' : Int))).alloc o) := by
 have hs := h.size
 have hz := hb.size
 have al : ∀ (W : World) {b : Nat} {vs : List Value}, VarAt W b vs → VarAt (W.alloc o) b vs := fun W b vs hv => hv.below (al_below _ _)
 refine ⟨((h.below.trans (hb.below.mono (by omega))).setCell (show w.heap.size ≤ w.heap.size + 1 + 1 + 1 by omega) _).trans ((al_below _ o).mono ?_), al _ (hc.apart _ _ (by omega)), al _ ?_, al _ ((h.r0.but hb (by omega)).apart _ _ (by omega)), al _ ((h.r1.but hb (by omega)).apart _ _ (by omega))⟩
 ·simp; omega
 ·exact (h.out.but hb (by omega)).setAt 3 (.int .u64 (S' : Int)) (by simp)
end Go.Proofs.YtibpfkcackdbgaaGreatDoor
