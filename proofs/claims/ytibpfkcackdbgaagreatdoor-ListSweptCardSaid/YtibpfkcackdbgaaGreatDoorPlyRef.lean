/- PlyRef -/
import Derived.Test.YtibpfkcackdbgaaGreatDoorPlyA
namespace Go.Proofs.YtibpfkcackdbgaaGreatDoor
open Go.ChangeShapes Go.WideShapes Go.ChangeAt Go.RowKit Go.BigFrame
set_option linter.unusedVariables false
set_option maxRecDepth 100000
structure AsksRel (w : World) (x : Acc) (D : Option Addr) (dc : Nat) (E : Option Addr) (ec : Nat) (D1 : Option Addr) (dc1 : Nat) (E1 : Option Addr) (ec1 : Nat) (y : World) : Prop where
 b0 : VarAt y w.heap.size (accA x D dc E ec)
 b1 : VarAt y (w.heap.size + 1) (accA x D1 dc1 E1 ec1)
 p0 : AccP y x D dc E ec
 p1 : AccP y x D1 dc1 E1 ec1
 below : Below w.heap.size w y
theorem AsksRel.drewN {w y : World} {x : Acc} {D : Option Addr} {dc : Nat} {E : Option Addr} {ec : Nat} {D1 : Option Addr} {dc1 : Nat} {E1 : Option Addr} {ec1 : Nat} (h : AsksRel w x D dc E ec D1 dc1 E1 ec1 y) (n : Nat) : AsksRel w x D dc E ec D1 dc1 E1 ec1 (y.drewN n) :=
 ⟨h.b0, h.b1, h.p0.later (below_draw (Below.refl _ _) n), h.p1.later (below_draw (Below.refl _ _) n), below_draw h.below n⟩
abbrev curV (A : Option Addr) (n cap : Nat) (i : Int) (st : Bool) (q0 q1 q2 q3 q4 q5 : Value) : List Value := [.slice A n cap, .int .i64 i, .bool st, q0, q1, q2, q3, q4, q5]
structure RefL (w : World) (T : List Value) (N : Int) (S : Nat) (y : World) : Prop where
 below : Below w.heap.size w y
 cur : VarAt y (w.heap.size + 1 + 1) T
 out : VarAt y (w.heap.size + 1 + 1 + 1) [.int .i64 0, .bool false, .int .i64 N, .int .u64 (S : Int), .slice none 0 0]
 r0 : VarAt y w.heap.size [.int .i64 0, .int .i64 0, .int .u64 0, .int .u64 0, .slice none 0 0, .slice none 0 0]
 r1 : VarAt y (w.heap.size + 1) [.int .i64 0, .bool false, .int .i64 0, .int .u64 0, .slice none 0 0]
theorem RefL.size {w : World} {T : List Value} {N : Int} {S : Nat} {y : World} (h : RefL w T N S y) : w.heap.size + 1 + 1 + 1 < y.heap.size := h.out.1
theorem RefL.drewN {w : World} {T : List Value} {N : Int} {S : Nat} {y : World} (h : RefL w T N S y) (n : Nat) : RefL w T N S (y.drewN n) := ⟨below_draw h.below n, h.cur.drewN n, h.out.drewN n, h.r0.drewN n, h.r1.drewN n⟩
theorem RefL.next {w : World} {T T' : List Value} {N : Int} {S S' : Nat} {y y' : World} (h : RefL w T N S y) (hb : But (w.heap.size + 1 + 1) y y') (hc : VarAt y' (w.heap.size + 1 + 1) T') (o : Obj) :
  RefL w T' N S' ((y'.setCell ⟨w.heap.size + 1 + 1 + 1, 3, none⟩ (.int .u64 (S' : Int))).alloc o) := by
 have hs := h.size
 have hz := hb.size
 have al : ∀ (W : World) {b : Nat} {vs : List Value}, VarAt W b vs → VarAt (W.alloc o) b vs := fun W b vs hv => hv.below (al_below _ _)
 refine ⟨((h.below.trans (hb.below.mono (by omega))).setCell (show w.heap.size ≤ w.heap.size + 1 + 1 + 1 by omega) _).trans ((al_below _ o).mono ?_), al _ (hc.apart _ _ (by omega)), al _ ?_, al _ ((h.r0.but hb (by omega)).apart _ _ (by omega)), al _ ((h.r1.but hb (by omega)).apart _ _ (by omega))⟩
 ·simp; omega
 ·exact (h.out.but hb (by omega)).setAt 3 (.int .u64 (S' : Int)) (by simp)
end Go.Proofs.YtibpfkcackdbgaaGreatDoor
