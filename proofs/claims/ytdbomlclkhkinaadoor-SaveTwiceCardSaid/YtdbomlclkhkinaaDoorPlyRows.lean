/-
  Rows of accesses and of what they were told, in memory: such that come in, or lie. Worlds that are alike but for one block of the call's own.
-/
import Derived.Test.YtdbomlclkhkinaaDoorBase
import Derived.Test.YtdbomlclkhkinaaDoorWds
namespace Go.Proofs.YtdbomlclkhkinaaDoor
open Go.ChangeShapes Go.WideShapes Go.ChangeAt Go.RowKit
set_option linter.unusedVariables false
set_option maxRecDepth 100000

/-- An access as it reads: kind, cell, two numbers, bytes, words (how many, and by place). -/
structure Acc where
  k : Int
  c : Int
  a : Nat
  b : Nat
  d : List Nat
  m : Nat
  f : Nat → Nat
def Acc.zero : Acc := ⟨0, 0, 0, 0, [], 0, fun _ => 0⟩
instance : Inhabited Acc := ⟨Acc.zero⟩
/-- The memory of an access: its bytes and words lie there; numbers are in their bounds. -/
structure AccP (w : World) (x : Acc) (D : Option Addr) (dc : Nat) (E : Option Addr) (ec : Nat) : Prop where
  k : -9223372036854775808 ≤ x.k ∧ x.k < 9223372036854775808
  c : -9223372036854775808 ≤ x.c ∧ x.c < 9223372036854775808
  a : x.a < 18446744073709551616
  b : x.b < 18446744073709551616
  dl : x.d.length ≤ dc ∧ x.d.length ≤ 140737488355328
  ml : x.m ≤ ec ∧ x.m ≤ 140737488355328
  d : AtB w D x.d.length x.d
  f : AtW w E x.m x.f
theorem AccP.later {w w' : World} {x : Acc} {D E : Option Addr} {dc ec : Nat} (h : AccP w x D dc E ec) (hb : Below w.heap.size w w') : AccP w' x D dc E ec :=
  ⟨h.k, h.c, h.a, h.b, h.dl, h.ml, AtB.later (Lib.hid h.d) hb, h.f.later hb⟩
theorem AccP.zero (w : World) : AccP w Acc.zero none 0 none 0 := ⟨by decide, by decide, by decide, by decide, by decide, by decide, AtB.nil _ _, AtW.nil _ _⟩
/-- Its value. -/
def accA (x : Acc) (D : Option Addr) (dc : Nat) (E : Option Addr) (ec : Nat) : List Value := [.int .i64 x.k, .int .i64 x.c, .int .u64 (x.a : Int), .int .u64 (x.b : Int), .slice D x.d.length dc, .slice E x.m ec]
/-- Its six cells lie at a place. -/
def CellsA (w : World) (b o : Nat) (x : Acc) (D : Option Addr) (dc : Nat) (E : Option Addr) (ec : Nat) : Prop :=
  w.cell? ⟨b, o, none⟩ = some (.int .i64 x.k) ∧ w.cell? ⟨b, o + 1, none⟩ = some (.int .i64 x.c) ∧ w.cell? ⟨b, o + 2, none⟩ = some (.int .u64 (x.a : Int)) ∧ w.cell? ⟨b, o + 3, none⟩ = some (.int .u64 (x.b : Int)) ∧
  w.cell? ⟨b, o + 4, none⟩ = some (.slice D x.d.length dc) ∧ w.cell? ⟨b, o + 5, none⟩ = some (.slice E x.m ec)
theorem CellsA.below {w w' : World} {b o : Nat} {x : Acc} {D E : Option Addr} {dc ec : Nat} (h : CellsA w b o x D dc E ec) (hb : Below w.heap.size w w') (hlt : b < w.heap.size) : CellsA w' b o x D dc E ec := by
  have k : ∀ o, w'.cell? ⟨b, o, none⟩ = w.cell? ⟨b, o, none⟩ := fun o => hb.cell (p := ⟨b, o, none⟩) hlt
  obtain ⟨h1, h2, h3, h4, h5, h6⟩ := h
  exact ⟨(k _).trans h1, (k _).trans h2, (k _).trans h3, (k _).trans h4, (k _).trans h5, (k _).trans h6⟩
/-- A slice that reads as a row of accesses. -/
def AccsAt (w : World) (a : Option Addr) (n : Nat) (l : List Acc) : Prop :=
  l.length = n ∧ n ≤ 140737488355328 ∧ (0 < n → ∃ b off, a = some ⟨b, off, none⟩ ∧ b < w.heap.size ∧ ∀ j x, l[j]? = some x → ∃ D dc E ec, CellsA w b (off + j * 6) x D dc E ec ∧ AccP w x D dc E ec)
theorem AccsAt.nil (w : World) (a : Option Addr) : AccsAt w a 0 [] := ⟨rfl, by omega, fun h => by omega⟩
theorem AccsAt.later {w w' : World} {a : Option Addr} {n : Nat} {l : List Acc} (h : AccsAt w a n l) (hb : Below w.heap.size w w') : AccsAt w' a n l := by
  obtain ⟨h1, h2, h3⟩ := h
  refine ⟨h1, h2, fun hp => ?_⟩
  obtain ⟨b, off, e, hlt, hc⟩ := h3 hp
  refine ⟨b, off, e, Nat.lt_of_lt_of_le hlt hb.size, fun j x hx => ?_⟩
  obtain ⟨D, dc, E, ec, k1, k2⟩ := hc j x hx
  exact ⟨D, dc, E, ec, k1.below hb hlt, k2.later hb⟩
/-- One element's place. -/
theorem AccsAt.at_ {w : World} {a : Option Addr} {n : Nat} {l : List Acc} (h : AccsAt w a n l) (j : Nat) (x : Acc) (hx : l[j]? = some x) :
    ∃ b off D dc E ec, a = some ⟨b, off, none⟩ ∧ b < w.heap.size ∧ CellsA w b (off + j * 6) x D dc E ec ∧ AccP w x D dc E ec := by
  have hj : j < n := by have := (List.getElem?_eq_some_iff.1 hx).1; have := h.1; omega
  obtain ⟨b, off, e, hlt, hc⟩ := h.2.2 (by omega)
  obtain ⟨D, dc, E, ec, k1, k2⟩ := hc j x hx
  exact ⟨b, off, D, dc, E, ec, e, hlt, k1, k2⟩

/-- What an access was told, as it reads. -/
structure Res where
  n : Nat
  b : List Nat
  fl : Bool
def Res.zero : Res := ⟨0, [], false⟩
instance : Inhabited Res := ⟨Res.zero⟩
structure ResP (w : World) (x : Res) (B : Option Addr) (bc : Nat) : Prop where
  n : x.n < 18446744073709551616
  bl : x.b.length ≤ bc ∧ x.b.length ≤ 140737488355328
  b : AtB w B x.b.length x.b
theorem ResP.later {w w' : World} {x : Res} {B : Option Addr} {bc : Nat} (h : ResP w x B bc) (hb : Below w.heap.size w w') : ResP w' x B bc := ⟨h.n, h.bl, AtB.later (Lib.hid h.b) hb⟩
theorem ResP.zero (w : World) : ResP w Res.zero none 0 := ⟨by decide, by decide, AtB.nil _ _⟩
theorem ResP.num (w : World) (n : Nat) (h : n < 18446744073709551616) : ResP w ⟨n, [], false⟩ none 0 := ⟨h, ⟨Nat.le_refl 0, Nat.zero_le _⟩, AtB.nil _ _⟩
def CellsR (w : World) (b o : Nat) (x : Res) (B : Option Addr) (bc : Nat) : Prop :=
  w.cell? ⟨b, o, none⟩ = some (.int .u64 (x.n : Int)) ∧ w.cell? ⟨b, o + 1, none⟩ = some (.slice B x.b.length bc) ∧ w.cell? ⟨b, o + 2, none⟩ = some (.bool x.fl)
theorem CellsR.below {w w' : World} {b o : Nat} {x : Res} {B : Option Addr} {bc : Nat} (h : CellsR w b o x B bc) (hb : Below w.heap.size w w') (hlt : b < w.heap.size) : CellsR w' b o x B bc := by
  have k : ∀ o, w'.cell? ⟨b, o, none⟩ = w.cell? ⟨b, o, none⟩ := fun o => hb.cell (p := ⟨b, o, none⟩) hlt
  exact ⟨(k _).trans h.1, (k _).trans h.2.1, (k _).trans h.2.2⟩
/-- A slice that reads as a log. -/
def LogAt (w : World) (a : Option Addr) (n : Nat) (l : List Res) : Prop :=
  l.length = n ∧ n ≤ 140737488355328 ∧ (0 < n → ∃ b off, a = some ⟨b, off, none⟩ ∧ b < w.heap.size ∧ ∀ j x, l[j]? = some x → ∃ B bc, CellsR w b (off + j * 3) x B bc ∧ ResP w x B bc)
theorem LogAt.nil (w : World) (a : Option Addr) : LogAt w a 0 [] := ⟨rfl, by omega, fun h => by omega⟩
theorem LogAt.later {w w' : World} {a : Option Addr} {n : Nat} {l : List Res} (h : LogAt w a n l) (hb : Below w.heap.size w w') : LogAt w' a n l := by
  obtain ⟨h1, h2, h3⟩ := h
  refine ⟨h1, h2, fun hp => ?_⟩
  obtain ⟨b, off, e, hlt, hc⟩ := h3 hp
  refine ⟨b, off, e, Nat.lt_of_lt_of_le hlt hb.size, fun j x hx => ?_⟩
  obtain ⟨B, bc, k1, k2⟩ := hc j x hx
  exact ⟨B, bc, k1.below hb hlt, k2.later hb⟩
theorem LogAt.at_ {w : World} {a : Option Addr} {n : Nat} {l : List Res} (h : LogAt w a n l) (j : Nat) (x : Res) (hx : l[j]? = some x) :
    ∃ b off B bc, a = some ⟨b, off, none⟩ ∧ b < w.heap.size ∧ CellsR w b (off + j * 3) x B bc ∧ ResP w x B bc := by
  have hj : j < n := by have := (List.getElem?_eq_some_iff.1 hx).1; have := h.1; omega
  obtain ⟨b, off, e, hlt, hc⟩ := h.2.2 (by omega)
  obtain ⟨B, bc, k1, k2⟩ := hc j x hx
  exact ⟨b, off, B, bc, e, hlt, k1, k2⟩
/-- The address behind a cut of a log. -/
def cutR (a : Option Addr) (cap lo : Nat) : Option Addr := if cap = lo then a else a.map (·.add (lo * 3))
theorem LogAt.cut {w : World} {a : Option Addr} {n cap : Nat} {l : List Res} (h : LogAt w a n l) (hc : n ≤ cap) (lo : Nat) (h1 : lo ≤ n) : LogAt w (cutR a cap lo) (n - lo) (l.drop lo) := by
  obtain ⟨h1', h2, h3⟩ := h
  refine ⟨by rw [List.length_drop]; omega, by omega, fun hp => ?_⟩
  obtain ⟨b, off, rfl, hlt, hcl⟩ := h3 (by omega)
  refine ⟨b, off + lo * 3, by unfold cutR; rw [if_neg (by omega)]; simp [Addr.add_lit], hlt, fun j x hx => ?_⟩
  rw [List.getElem?_drop] at hx
  have := hcl (lo + j) x hx
  rw [show off + lo * 3 + j * 3 = off + (lo + j) * 3 by omega]
  exact this
theorem elemR : Tryd.prog.underlying 58 = some (.slice (Tryd.prog.elem 58)) := by kernel_rfl
theorem elemR' : Tryd.prog.elem 58 = 60 := by kernel_rfl
theorem sizeR (w : World) : (sizeOf 60).run Tryd.prog w = .ok 3 w := by kernel_rfl
theorem run_cut_log (a : Option Addr) (len cap lo : Nat) (h1 : lo ≤ len) (W : World) :
    (Instr.slice 58 (.slice a len cap) (some (.int .i64 (lo : Int))) none none).run Tryd.prog W = .ok (.slice (cutR a cap lo) (len - lo) (cap - lo)) W := by
  rw [run_slice_l W 58 _ _ _ elemR .i64 _ (by omega) (by omega), elemR', sizeR]
  rfl

/-! ### Worlds that are alike but for one block -/
/-- But for block g all that was there is as it was. -/
structure But (g : Nat) (w w' : World) : Prop where
  below : Below g w w'
  block : ∀ b, b < w.heap.size → b ≠ g → w'.heap[b]? = w.heap[b]?
section
variable {g : Nat} {w w' w2 : World}
theorem But.size (h : But g w w') : w.heap.size ≤ w'.heap.size := h.below.size
theorem But.refl (g : Nat) (w : World) : But g w w := ⟨Below.refl _ _, fun _ _ _ => rfl⟩
theorem But.trans (h : But g w w') (h2 : But g w' w2) : But g w w2 := ⟨h.below.trans h2.below, fun b hb hg => (h2.block b (Nat.lt_of_lt_of_le hb h.size) hg).trans (h.block b hb hg)⟩
theorem But.later (h : But g w w') (hb : Below w'.heap.size w' w2) (hg : g < w'.heap.size) : But g w w2 := ⟨h.below.trans (hb.mono (by omega)), fun b hlt hne => (hb.block b (Nat.lt_of_lt_of_le hlt h.size)).trans (h.block b hlt hne)⟩
theorem But.of (hb : Below w.heap.size w w') (hg : g ≤ w.heap.size) : But g w w' := ⟨hb.mono hg, fun b hlt _ => hb.block b hlt⟩
theorem But.drew (h : But g w w') : But g w w'.drew := ⟨h.below.drew, h.block⟩
theorem But.alloc (h : But g w w') (o : Obj) (hg : g ≤ w.heap.size) : But g w (w'.alloc o) := by
  have hb := al_below w' o
  exact ⟨h.below.alloc (Nat.le_trans hg h.size) o, fun b hlt hne => (hb.block b (Nat.lt_of_lt_of_le hlt h.size)).trans (h.block b hlt hne)⟩
/-- A store into the block. -/
theorem But.set (h : But g w w') (j : Nat) (v : Value) : But g w (w'.setCell ⟨g, j, none⟩ v) :=
  ⟨h.below.setCell (Nat.le_refl _) v, fun b hlt hne => (Below.heap_setCell w' ⟨g, j, none⟩ v b hne).trans (h.block b hlt hne)⟩
/-- A store into new memory. -/
theorem But.new (h : But g w w') (b j : Nat) (v : Value) (hg : g ≤ w.heap.size) (hb : w.heap.size ≤ b) : But g w (w'.setCell ⟨b, j, none⟩ v) :=
  ⟨h.below.setCell (show g ≤ b by omega) v, fun c hlt hne => (Below.heap_setCell w' ⟨b, j, none⟩ v c (show c ≠ b by omega)).trans (h.block c hlt hne)⟩
theorem But.cell (h : But g w w') {b o : Nat} (hlt : b < w.heap.size) (hne : b ≠ g) : w'.cell? ⟨b, o, none⟩ = w.cell? ⟨b, o, none⟩ := by
  have := h.block b hlt hne
  unfold World.cell?
  simp only [this]
theorem But.free (h : But g w w') {b o : Nat} (hlt : b < w.heap.size) (hne : b ≠ g) : w'.frozen? ⟨b, o, none⟩ = w.frozen? ⟨b, o, none⟩ := by
  have := h.block b hlt hne
  unfold World.frozen?
  simp only [this]
theorem VarAt.but {b : Nat} {vs : List Value} (hv : VarAt w b vs) (h : But g w w') (hne : b ≠ g) : VarAt w' b vs :=
  ⟨Nat.lt_of_lt_of_le hv.1 h.size, fun j v hj => (h.cell hv.1 hne).trans (hv.2.1 j v hj), fun j hj => (h.free hv.1 hne).trans (hv.2.2 j hj)⟩
end
theorem VarAt.nine {w : World} {b : Nat} {v0 v1 v2 v3 v4 v5 v6 v7 v8 : Value} (h : VarAt w b [v0, v1, v2, v3, v4, v5, v6, v7, v8]) :
    b < w.heap.size ∧ (w.cell? ⟨b, 0, none⟩ = some v0 ∧ w.cell? ⟨b, 1, none⟩ = some v1 ∧ w.cell? ⟨b, 2, none⟩ = some v2 ∧ w.cell? ⟨b, 3, none⟩ = some v3 ∧ w.cell? ⟨b, 4, none⟩ = some v4 ∧ w.cell? ⟨b, 5, none⟩ = some v5 ∧ w.cell? ⟨b, 6, none⟩ = some v6 ∧ w.cell? ⟨b, 7, none⟩ = some v7 ∧ w.cell? ⟨b, 8, none⟩ = some v8) ∧
    (w.frozen? ⟨b, 0, none⟩ = false ∧ w.frozen? ⟨b, 1, none⟩ = false ∧ w.frozen? ⟨b, 2, none⟩ = false ∧ w.frozen? ⟨b, 3, none⟩ = false ∧ w.frozen? ⟨b, 4, none⟩ = false ∧ w.frozen? ⟨b, 5, none⟩ = false ∧ w.frozen? ⟨b, 6, none⟩ = false ∧ w.frozen? ⟨b, 7, none⟩ = false ∧ w.frozen? ⟨b, 8, none⟩ = false) :=
  ⟨h.1, ⟨h.2.1 0 _ rfl, h.2.1 1 _ rfl, h.2.1 2 _ rfl, h.2.1 3 _ rfl, h.2.1 4 _ rfl, h.2.1 5 _ rfl, h.2.1 6 _ rfl, h.2.1 7 _ rfl, h.2.1 8 _ rfl⟩, h.2.2 0 (by simp), h.2.2 1 (by simp), h.2.2 2 (by simp), h.2.2 3 (by simp), h.2.2 4 (by simp), h.2.2 5 (by simp), h.2.2 6 (by simp), h.2.2 7 (by simp), h.2.2 8 (by simp)⟩
theorem VarAt.mk1 {w : World} {b : Nat} {v0 : Value} (hz : b < w.heap.size) (c0 : w.cell? ⟨b, 0, none⟩ = some v0) (f0 : w.frozen? ⟨b, 0, none⟩ = false) : VarAt w b [v0] := by
  refine ⟨hz, fun j v hv => ?_, fun j hj => ?_⟩
  · obtain rfl : j = 0 := by have := (List.getElem?_eq_some_iff.1 hv).1; simp at this; omega
    cases hv; assumption
  · obtain rfl : j = 0 := by simp at hj; omega
    assumption
theorem VarAt.mk3 {w : World} {b : Nat} {v0 v1 v2 : Value} (hz : b < w.heap.size) (c0 : w.cell? ⟨b, 0, none⟩ = some v0) (c1 : w.cell? ⟨b, 1, none⟩ = some v1) (c2 : w.cell? ⟨b, 2, none⟩ = some v2) (f0 : w.frozen? ⟨b, 0, none⟩ = false) (f1 : w.frozen? ⟨b, 1, none⟩ = false) (f2 : w.frozen? ⟨b, 2, none⟩ = false) : VarAt w b [v0, v1, v2] := by
  refine ⟨hz, fun j v hv => ?_, fun j hj => ?_⟩
  · obtain rfl | rfl | rfl : j = 0 ∨ j = 1 ∨ j = 2 := by have := (List.getElem?_eq_some_iff.1 hv).1; simp at this; omega
    all_goals (cases hv; assumption)
  · obtain rfl | rfl | rfl : j = 0 ∨ j = 1 ∨ j = 2 := by simp at hj; omega
    all_goals assumption
theorem VarAt.mk5 {w : World} {b : Nat} {v0 v1 v2 v3 v4 : Value} (hz : b < w.heap.size) (c0 : w.cell? ⟨b, 0, none⟩ = some v0) (c1 : w.cell? ⟨b, 1, none⟩ = some v1) (c2 : w.cell? ⟨b, 2, none⟩ = some v2) (c3 : w.cell? ⟨b, 3, none⟩ = some v3) (c4 : w.cell? ⟨b, 4, none⟩ = some v4) (f0 : w.frozen? ⟨b, 0, none⟩ = false) (f1 : w.frozen? ⟨b, 1, none⟩ = false) (f2 : w.frozen? ⟨b, 2, none⟩ = false) (f3 : w.frozen? ⟨b, 3, none⟩ = false) (f4 : w.frozen? ⟨b, 4, none⟩ = false) : VarAt w b [v0, v1, v2, v3, v4] := by
  refine ⟨hz, fun j v hv => ?_, fun j hj => ?_⟩
  · obtain rfl | rfl | rfl | rfl | rfl : j = 0 ∨ j = 1 ∨ j = 2 ∨ j = 3 ∨ j = 4 := by have := (List.getElem?_eq_some_iff.1 hv).1; simp at this; omega
    all_goals (cases hv; assumption)
  · obtain rfl | rfl | rfl | rfl | rfl : j = 0 ∨ j = 1 ∨ j = 2 ∨ j = 3 ∨ j = 4 := by simp at hj; omega
    all_goals assumption
theorem VarAt.mk6 {w : World} {b : Nat} {v0 v1 v2 v3 v4 v5 : Value} (hz : b < w.heap.size) (c0 : w.cell? ⟨b, 0, none⟩ = some v0) (c1 : w.cell? ⟨b, 1, none⟩ = some v1) (c2 : w.cell? ⟨b, 2, none⟩ = some v2) (c3 : w.cell? ⟨b, 3, none⟩ = some v3) (c4 : w.cell? ⟨b, 4, none⟩ = some v4) (c5 : w.cell? ⟨b, 5, none⟩ = some v5) (f0 : w.frozen? ⟨b, 0, none⟩ = false) (f1 : w.frozen? ⟨b, 1, none⟩ = false) (f2 : w.frozen? ⟨b, 2, none⟩ = false) (f3 : w.frozen? ⟨b, 3, none⟩ = false) (f4 : w.frozen? ⟨b, 4, none⟩ = false) (f5 : w.frozen? ⟨b, 5, none⟩ = false) : VarAt w b [v0, v1, v2, v3, v4, v5] := by
  refine ⟨hz, fun j v hv => ?_, fun j hj => ?_⟩
  · obtain rfl | rfl | rfl | rfl | rfl | rfl : j = 0 ∨ j = 1 ∨ j = 2 ∨ j = 3 ∨ j = 4 ∨ j = 5 := by have := (List.getElem?_eq_some_iff.1 hv).1; simp at this; omega
    all_goals (cases hv; assumption)
  · obtain rfl | rfl | rfl | rfl | rfl | rfl : j = 0 ∨ j = 1 ∨ j = 2 ∨ j = 3 ∨ j = 4 ∨ j = 5 := by simp at hj; omega
    all_goals assumption
theorem VarAt.mk9 {w : World} {b : Nat} {v0 v1 v2 v3 v4 v5 v6 v7 v8 : Value} (hz : b < w.heap.size) (c0 : w.cell? ⟨b, 0, none⟩ = some v0) (c1 : w.cell? ⟨b, 1, none⟩ = some v1) (c2 : w.cell? ⟨b, 2, none⟩ = some v2) (c3 : w.cell? ⟨b, 3, none⟩ = some v3) (c4 : w.cell? ⟨b, 4, none⟩ = some v4) (c5 : w.cell? ⟨b, 5, none⟩ = some v5) (c6 : w.cell? ⟨b, 6, none⟩ = some v6) (c7 : w.cell? ⟨b, 7, none⟩ = some v7) (c8 : w.cell? ⟨b, 8, none⟩ = some v8) (f0 : w.frozen? ⟨b, 0, none⟩ = false) (f1 : w.frozen? ⟨b, 1, none⟩ = false) (f2 : w.frozen? ⟨b, 2, none⟩ = false) (f3 : w.frozen? ⟨b, 3, none⟩ = false) (f4 : w.frozen? ⟨b, 4, none⟩ = false) (f5 : w.frozen? ⟨b, 5, none⟩ = false) (f6 : w.frozen? ⟨b, 6, none⟩ = false) (f7 : w.frozen? ⟨b, 7, none⟩ = false) (f8 : w.frozen? ⟨b, 8, none⟩ = false) : VarAt w b [v0, v1, v2, v3, v4, v5, v6, v7, v8] := by
  refine ⟨hz, fun j v hv => ?_, fun j hj => ?_⟩
  · obtain rfl | rfl | rfl | rfl | rfl | rfl | rfl | rfl | rfl : j = 0 ∨ j = 1 ∨ j = 2 ∨ j = 3 ∨ j = 4 ∨ j = 5 ∨ j = 6 ∨ j = 7 ∨ j = 8 := by have := (List.getElem?_eq_some_iff.1 hv).1; simp at this; omega
    all_goals (cases hv; assumption)
  · obtain rfl | rfl | rfl | rfl | rfl | rfl | rfl | rfl | rfl : j = 0 ∨ j = 1 ∨ j = 2 ∨ j = 3 ∨ j = 4 ∨ j = 5 ∨ j = 6 ∨ j = 7 ∨ j = 8 := by simp at hj; omega
    all_goals assumption
theorem VarAt.fiveC {w : World} {b : Nat} {v0 v1 v2 v3 v4 : Value} (h : VarAt w b [v0, v1, v2, v3, v4]) : w.cell? ⟨b, 0, none⟩ = some v0 ∧ w.cell? ⟨b, 1, none⟩ = some v1 ∧ w.cell? ⟨b, 2, none⟩ = some v2 ∧ w.cell? ⟨b, 3, none⟩ = some v3 ∧ w.cell? ⟨b, 4, none⟩ = some v4 := h.five.2.1
theorem ResP.kept {g : Nat} {w0 w W : World} {r : Res} {B : Option Addr} {bc : Nat} (h : ResP w0 r B bc) (h0 : Below w0.heap.size w0 w) (hb : But g w W) (hg : w0.heap.size ≤ g) : ResP W r B bc := h.later (h0.trans (hb.below.mono hg))
theorem gen_w {P : World → Prop} {W : World} (S : World → Prop) (hS : S W) (h : ∀ x, S x → P x) : P W := h W hS
end Go.Proofs.YtdbomlclkhkinaaDoor
