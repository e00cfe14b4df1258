/-
  Memory that a call made: a variable of several cells (an array, a struct) that is written whole; what has stayed. No bytes.
-/
import Derived.Test.YtjbhichgojjakaaRows
import Derived.WalkKit
import Derived.WalkLawsBesides
import Derived.ProofKit
import Derived.OpenShut
import Derived.Lib.Hide
import Derived.Laws.BitsAllLaws
import Derived.LoopTactic
import Derived.IntWalk
import Derived.Outline
import Derived.RowKit3
import Derived.Below
import Derived.ChangeSlices
import Derived.OwnWalk
import Derived.Deep.QuietTactic
import Derived.BigQuiet
import Derived.Laws.OwnMore
import Derived.Deep.MidRow
namespace Go.Proofs.Ytjbhichgojjakaa
open Go.ChangeShapes Go.WideShapes Go.ChangeAt Go.RowKit
set_option linter.unusedVariables false
set_option maxRecDepth 100000

/-- The value, and what lay has stayed. -/
def Kept (w : World) (v : Value) (e : Ending) (w' : World) : Prop := e = .returned v ∧ Below w.heap.size w w'
theorem keptCells {W w1 : World} (hb : Below W.heap.size W w1) (b o : Nat) (h : b < W.heap.size) : w1.cell? ⟨b, o, none⟩ = W.cell? ⟨b, o, none⟩ := hb.cell (p := ⟨b, o, none⟩) h
theorem keptFrozen {W w1 : World} (hb : Below W.heap.size W w1) (b o : Nat) (h : b < W.heap.size) : w1.frozen? ⟨b, o, none⟩ = W.frozen? ⟨b, o, none⟩ := hb.frozen (p := ⟨b, o, none⟩) h
theorem below_step {B W w2 : World} (hb : Below W.heap.size W w2) (h : Below B.heap.size B W) : Below B.heap.size B w2 := h.trans (hb.mono h.size)
theorem below_al {a W : World} {o : Obj} (h : Below a.heap.size a W) : Below a.heap.size a (W.alloc o) := h.alloc h.size o
theorem below_box {w w1 : World} {o : Obj} (h : Below (w.alloc o).heap.size (w.alloc o) w1) : Below w.heap.size w w1 :=
  ((Below.refl _ w).alloc (Nat.le_refl _) o).trans (h.mono (by simp))
theorem below_setCells {B : Nat} {w0 : World} {b : Nat} (hb : B ≤ b) : ∀ (vs : List Value) (o : Nat) (w : World), Below B w0 w → Below B w0 (w.setCells b o vs)
  | [], _, _, h => h
  | v :: r, o, w, h => below_setCells hb r (o + 1) _ (h.setCell (by simpa using hb) v)

theorem below_set5 {w0 w : World} {b : Nat} (hb : w0.heap.size ≤ b) (v0 v1 v2 v3 v4 : Value) (h : Below w0.heap.size w0 w) :
    Below w0.heap.size w0 (((((w.setCell ⟨b, 0, none⟩ v0).setCell ⟨b, 1, none⟩ v1).setCell ⟨b, 2, none⟩ v2).setCell ⟨b, 3, none⟩ v3).setCell ⟨b, 4, none⟩ v4) := below_setCells hb [v0, v1, v2, v3, v4] 0 w h
theorem below_set6 {w0 w : World} {b : Nat} (hb : w0.heap.size ≤ b) (v0 v1 v2 v3 v4 v5 : Value) (h : Below w0.heap.size w0 w) :
    Below w0.heap.size w0 ((((((w.setCell ⟨b, 0, none⟩ v0).setCell ⟨b, 1, none⟩ v1).setCell ⟨b, 2, none⟩ v2).setCell ⟨b, 3, none⟩ v3).setCell ⟨b, 4, none⟩ v4).setCell ⟨b, 5, none⟩ v5) := below_setCells hb [v0, v1, v2, v3, v4, v5] 0 w h
/-- n cells of a block lie there, and may be written. -/
def Room (w : World) (b n : Nat) : Prop := b < w.heap.size ∧ w.there b 0 n
theorem Room.below {w w' : World} {b n : Nat} (h : Room w b n) (hb : Below w.heap.size w w') : Room w' b n :=
  ⟨Nat.lt_of_lt_of_le h.1 hb.size, fun j hj => by rw [keptCells hb _ _ h.1, keptFrozen hb _ _ h.1]; exact h.2 j hj⟩
theorem Room.made (w : World) (c : Array Value) (t : TypeId) (n : Nat) (hn : n ≤ c.size) : Room (w.alloc (.cells c t)) w.heap.size n := by
  refine ⟨by simp, fun j hj => ⟨?_, ?_⟩⟩
  · rw [World.cell?_alloc_mark]
    simp
    omega
  · have e : (w.alloc (.cells c t)).heap[w.heap.size]? = some (.cells c t) := heap_alloc_new w _
    unfold World.frozen?
    simp only [e]
    simp
/-- What lies in a block's first cells. -/
def CellsAt (w : World) (b : Nat) (cs : List Value) : Prop := b < w.heap.size ∧ ∀ j v, cs[j]? = some v → w.cell? ⟨b, j, none⟩ = some v
theorem CellsAt.below {w w' : World} {b : Nat} {cs : List Value} (h : CellsAt w b cs) (hb : Below w.heap.size w w') : CellsAt w' b cs :=
  ⟨Nat.lt_of_lt_of_le h.1 hb.size, fun j v hv => (keptCells hb _ _ h.1).trans (h.2 j v hv)⟩
theorem CellsAt.set {w : World} {b n : Nat} {cs : List Value} (h : Room w b n) (hn : cs.length = n) : CellsAt (w.setCells b 0 cs) b cs := by
  refine ⟨Nat.lt_of_lt_of_le h.1 (below_setCells (Nat.zero_le b) cs 0 w (Below.refl 0 w)).size, fun j v hv => ?_⟩
  · have hj : j < cs.length := (List.getElem?_eq_some_iff.1 hv).1
    have := World.cell?_setCells_in b cs 0 w (fun j hj => by have := (h.2 j (by omega)).1; exact this) j hj
    rw [Nat.zero_add] at this
    rw [this]
    exact hv ▸ (List.getElem?_eq_getElem hj).symm
theorem Room.drew {w : World} {b n : Nat} (h : Room w b n) : Room w.drew b n := h
theorem Room.set {w : World} {b n : Nat} (h : Room w b n) (cs : List Value) : Room (w.setCells b 0 cs) b n := by
  refine ⟨Nat.lt_of_lt_of_le h.1 (below_setCells (Nat.zero_le b) cs 0 w (Below.refl 0 w)).size, World.there_setCells h.2 b 0 cs⟩
/-- An aggregate is stored whole into a variable of the call's own: as one step of a region that draws its order. -/
theorem step_store_own {ops : Array Oper} {o : Oper} {a : Act} {w0 w : World} {K : Act → World → Prop} {Q : Exit → Act → World → Prop} {E : Prop} (hg : o.guard = none) (ty : TypeId) (x y : Operand) (ho : o.op = .store ty x y)
    (b : Nat) (cells : Array Value) (hx : a.eval x = .pointer (some ⟨b, 0, none⟩)) (hy : a.eval y = .agg cells) (hi : (Try.prog.info? ty).map (·.size) = some cells.size) (h1 : cells.all (·.oneCell') = true)
    (hB : Below w0.heap.size w0 w) (hR : Room w b cells.size) (hb : w0.heap.size ≤ b)
    (h : ∀ w', CellsAt w' b cells.toList → Room w' b cells.size → Below w0.heap.size w0 w' → K (a.put o.dst undef) w') : if Region.wanted o (yielded ops a.tmps) = true then Oper.wp Try.prog o a w K Q else E := by
  have hw : Region.wanted o (yielded ops a.tmps) = true := by simp [Region.wanted, hg]
  rw [if_pos hw]
  exact wp_store_mid ty x y ho b 0 cells hx hy hR.2 hi h1 (h _ (CellsAt.set hR (by simp)) (hR.set _) (below_setCells hb _ _ _ hB))
theorem wpList_store_own {ops : Array Oper} {rest : List Oper} {o : Oper} {a : Act} {w0 w : World} {Q : Exit → Act → World → Prop} (hg : o.guard = none) (ty : TypeId) (x y : Operand) (ho : o.op = .store ty x y)
    (b : Nat) (cells : Array Value) (hx : a.eval x = .pointer (some ⟨b, 0, none⟩)) (hy : a.eval y = .agg cells) (hi : (Try.prog.info? ty).map (·.size) = some cells.size) (h1 : cells.all (·.oneCell') = true)
    (hB : Below w0.heap.size w0 w) (hR : Room w b cells.size) (hb : w0.heap.size ≤ b)
    (h : ∀ w', CellsAt w' b cells.toList → Room w' b cells.size → Below w0.heap.size w0 w' → wpList Try.prog ops Q rest (a.put o.dst undef) w') : wpList Try.prog ops Q (o :: rest) a w :=
  wpList_store_mid hg ty x y ho b 0 cells hx hy hR.2 hi h1 (h _ (CellsAt.set hR (by simp)) (hR.set _) (below_setCells hb _ _ _ hB))

/-- A variable of the call's own lies in a block: its cells, which may be written. -/
def VarAt (w : World) (b : Nat) (vs : List Value) : Prop := b < w.heap.size ∧ (∀ j v, vs[j]? = some v → w.cell? ⟨b, j, none⟩ = some v) ∧ ∀ j, j < vs.length → w.frozen? ⟨b, j, none⟩ = false
theorem VarAt.below {w w' : World} {b : Nat} {vs : List Value} (h : VarAt w b vs) (hb : Below w.heap.size w w') : VarAt w' b vs :=
  ⟨Nat.lt_of_lt_of_le h.1 hb.size, fun j v hv => (keptCells hb _ _ h.1).trans (h.2.1 j v hv), fun j hj => (keptFrozen hb _ _ h.1).trans (h.2.2 j hj)⟩
theorem VarAt.made (w : World) (c : Array Value) (t : TypeId) : VarAt (w.alloc (.cells c t)) w.heap.size c.toList := by
  refine ⟨by simp, fun j v hv => ?_, fun j hj => ?_⟩
  · rw [World.cell?_alloc_mark]
    simpa using hv
  · have e : (w.alloc (.cells c t)).heap[w.heap.size]? = some (.cells c t) := heap_alloc_new w _
    unfold World.frozen?
    simp only [e]
    simp
theorem VarAt.drewN {w : World} {b : Nat} {vs : List Value} (h : VarAt w b vs) (n : Nat) : VarAt (w.drewN n) b vs := h
theorem VarAt.setAt {w : World} {b : Nat} {vs : List Value} (h : VarAt w b vs) (j : Nat) (v : Value) (hj : j < vs.length) : VarAt (w.setCell ⟨b, j, none⟩ v) b (vs.set j v) := by
  refine ⟨by simpa using h.1, fun i u hu => ?_, fun i hi => by rw [World.frozen?_setCell]; exact h.2.2 i (by simpa using hi)⟩
  by_cases hij : i = j
  · subst hij
    obtain ⟨z, hz⟩ : ∃ z, vs[i]? = some z := ⟨vs[i], List.getElem?_eq_getElem hj⟩
    have := World.cell?_setCell_same w ⟨b, i, none⟩ v (h.2.1 i z hz)
    rw [this]
    rw [List.getElem?_set_self hj] at hu
    exact hu
  · rw [World.cell?_setCell_other _ _ _ _ (by simp <;> omega)]
    rw [List.getElem?_set_ne (by omega)] at hu
    exact h.2.1 i u hu
theorem VarAt.apart {w : World} {b b' : Nat} {vs : List Value} (h : VarAt w b vs) (j : Nat) (v : Value) (hb : b' ≠ b) : VarAt (w.setCell ⟨b', j, none⟩ v) b vs := by
  refine ⟨by simpa using h.1, fun i u hu => ?_, fun i hi => by rw [World.frozen?_setCell]; exact h.2.2 i hi⟩
  rw [World.cell?_setCell_other _ _ _ _ (by simp <;> omega)]
  exact h.2.1 i u hu
theorem VarAt.five {w : World} {b : Nat} {v0 v1 v2 v3 v4 : Value} (h : VarAt w b [v0, v1, v2, v3, v4]) :
    b < w.heap.size ∧ (w.cell? ⟨b, 0, none⟩ = some v0 ∧ w.cell? ⟨b, 1, none⟩ = some v1 ∧ w.cell? ⟨b, 2, none⟩ = some v2 ∧ w.cell? ⟨b, 3, none⟩ = some v3 ∧ w.cell? ⟨b, 4, none⟩ = some v4) ∧
    (w.frozen? ⟨b, 0, none⟩ = false ∧ w.frozen? ⟨b, 1, none⟩ = false ∧ w.frozen? ⟨b, 2, none⟩ = false ∧ w.frozen? ⟨b, 3, none⟩ = false ∧ w.frozen? ⟨b, 4, none⟩ = false) :=
  ⟨h.1, ⟨h.2.1 0 _ rfl, h.2.1 1 _ rfl, h.2.1 2 _ rfl, h.2.1 3 _ rfl, h.2.1 4 _ rfl⟩, h.2.2 0 (by simp), h.2.2 1 (by simp), h.2.2 2 (by simp), h.2.2 3 (by simp), h.2.2 4 (by simp)⟩
theorem VarAt.six {w : World} {b : Nat} {v0 v1 v2 v3 v4 v5 : Value} (h : VarAt w b [v0, v1, v2, v3, v4, v5]) :
    b < w.heap.size ∧ (w.cell? ⟨b, 0, none⟩ = some v0 ∧ w.cell? ⟨b, 1, none⟩ = some v1 ∧ w.cell? ⟨b, 2, none⟩ = some v2 ∧ w.cell? ⟨b, 3, none⟩ = some v3 ∧ w.cell? ⟨b, 4, none⟩ = some v4 ∧ w.cell? ⟨b, 5, none⟩ = some v5) ∧
    (w.frozen? ⟨b, 0, none⟩ = false ∧ w.frozen? ⟨b, 1, none⟩ = false ∧ w.frozen? ⟨b, 2, none⟩ = false ∧ w.frozen? ⟨b, 3, none⟩ = false ∧ w.frozen? ⟨b, 4, none⟩ = false ∧ w.frozen? ⟨b, 5, none⟩ = false) :=
  ⟨h.1, ⟨h.2.1 0 _ rfl, h.2.1 1 _ rfl, h.2.1 2 _ rfl, h.2.1 3 _ rfl, h.2.1 4 _ rfl, h.2.1 5 _ rfl⟩, h.2.2 0 (by simp), h.2.2 1 (by simp), h.2.2 2 (by simp), h.2.2 3 (by simp), h.2.2 4 (by simp), h.2.2 5 (by simp)⟩
theorem VarAt.two {w : World} {b : Nat} {v0 v1 : Value} (h : VarAt w b [v0, v1]) :
    b < w.heap.size ∧ w.cell? ⟨b, 0, none⟩ = some v0 ∧ w.cell? ⟨b, 1, none⟩ = some v1 ∧ w.frozen? ⟨b, 0, none⟩ = false ∧ w.frozen? ⟨b, 1, none⟩ = false :=
  ⟨h.1, h.2.1 0 _ rfl, h.2.1 1 _ rfl, h.2.2 0 (by simp), h.2.2 1 (by simp)⟩
theorem VarAt.made1 (w : World) (o : Obj) (c : Array Value) (t : TypeId) : VarAt ((w.alloc o).alloc (.cells c t)) (w.heap.size + 1) c.toList := by
  have h := VarAt.made (w.alloc o) c t
  rw [show (w.alloc o).heap.size = w.heap.size + 1 by simp] at h
  exact h
theorem VarAt.three {w : World} {b : Nat} {v0 v1 v2 : Value} (h : VarAt w b [v0, v1, v2]) :
    b < w.heap.size ∧ w.cell? ⟨b, 0, none⟩ = some v0 ∧ w.cell? ⟨b, 1, none⟩ = some v1 ∧ w.cell? ⟨b, 2, none⟩ = some v2 ∧ w.frozen? ⟨b, 0, none⟩ = false ∧ w.frozen? ⟨b, 1, none⟩ = false ∧ w.frozen? ⟨b, 2, none⟩ = false :=
  ⟨h.1, h.2.1 0 _ rfl, h.2.1 1 _ rfl, h.2.1 2 _ rfl, h.2.2 0 (by simp), h.2.2 1 (by simp), h.2.2 2 (by simp)⟩
theorem VarAt.three0 (w : World) (a b c : Value) (o : Obj) (t : TypeId) : VarAt ((w.alloc (.cells #[a, b, c] t)).alloc o) w.heap.size [a, b, c] := (VarAt.made w #[a, b, c] t).below ((Below.refl _ _).alloc (Nat.le_refl _) _)
theorem VarAt.three1 (w : World) (a b c : Value) (o : Obj) (t : TypeId) : VarAt ((w.alloc o).alloc (.cells #[a, b, c] t)) (w.heap.size + 1) [a, b, c] := VarAt.made1 w o #[a, b, c] t
theorem al_below (w : World) (o : Obj) : Below w.heap.size w (w.alloc o) := (Below.refl _ _).alloc (Nat.le_refl _) o
theorem below_pair (w : World) (o o' : Obj) : Below w.heap.size w ((w.alloc o).alloc o') := ((Below.refl _ w).alloc (Nat.le_refl _) o).alloc (by simp) o'
theorem below_set1 {w0 w : World} {b j : Nat} (hb : w0.heap.size ≤ b) (v0 : Value) (h : Below w0.heap.size w0 w) : Below w0.heap.size w0 (w.setCell ⟨b, j, none⟩ v0) := below_setCells hb [v0] j w h
theorem quiet_call {f : FuncId} {args : Array Value} {w : World} {n : Nat} {v : Value} (h : Calls Try.prog f args (w.drewN n) fun e w' => e = .returned v ∧ w.drewN n = w') :
    Calls Try.prog f args (w.drewN n) fun e w'' => e = .returned v ∧ ∃ m, w'' = w.drewN m := h.mono fun _ _ ⟨he, hm⟩ => ⟨he, n, hm.symm⟩
theorem below_draw {B : Nat} {a w : World} (h : Below B a w) (n : Nat) : Below B a (w.drewN n) := ⟨h.os, h.tape, h.output, h.size, h.block⟩
end Go.Proofs.Ytjbhichgojjakaa
