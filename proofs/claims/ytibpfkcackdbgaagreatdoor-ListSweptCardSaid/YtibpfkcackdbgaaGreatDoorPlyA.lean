/- PlyA -/
import Derived.Test.YtibpfkcackdbgaaGreatDoorBase
import Derived.Test.YtibpfkcackdbgaaGreatDoorWds
import Derived.Test.YtibpfkcackdbgaaGreatDoorAccRead
import Derived.Test.YtibpfkcackdbgaaGreatDoorAccA
import Derived.Deep.RegionHeld3
import Derived.Deep.RegionWith
import Derived.Deep.Cut
import Derived.Deep.CutRange
import Derived.Defers
import Derived.Recover
namespace Go.Proofs.YtibpfkcackdbgaaGreatDoor
open Go.ChangeShapes Go.WideShapes Go.ChangeAt Go.RowKit
set_option linter.unusedVariables false
set_option maxRecDepth 100000
structure Acc where
 k : Int
 c : Int
 a : Nat
 b : Nat
 d : List Nat
 m : Nat
 f : Nat → Nat
def Acc.zero : Acc := ⟨0, 0, 0, 0, [], 0, fun _ => 0⟩
instance : Inhabited Acc := ⟨Acc.zero⟩
structure AccP (w : World) (x : Acc) (D : Option Addr) (dc : Nat) (E : Option Addr) (ec : Nat) : Prop where
 k : -9223372036854775808 ≤ x.k ∧ x.k < 9223372036854775808
 c : -9223372036854775808 ≤ x.c ∧ x.c < 9223372036854775808
 a : x.a < 18446744073709551616
 b : x.b < 18446744073709551616
 dl : x.d.length ≤ dc ∧ x.d.length ≤ 140737488355328
 ml : x.m ≤ ec ∧ x.m ≤ 140737488355328
 d : AtB w D x.d.length x.d
 f : AtW w E x.m x.f
theorem AccP.later {w w' : World} {x : Acc} {D E : Option Addr} {dc ec : Nat} (h : AccP w x D dc E ec) (hb : Below w.heap.size w w') : AccP w' x D dc E ec :=
 ⟨h.k, h.c, h.a, h.b, h.dl, h.ml, AtB.later (Lib.hid h.d) hb, h.f.later hb⟩
theorem AccP.zero (w : World) : AccP w Acc.zero none 0 none 0 := ⟨by decide, by decide, by decide, by decide, by decide, by decide, AtB.nil _ _, AtW.nil _ _⟩
def accA (x : Acc) (D : Option Addr) (dc : Nat) (E : Option Addr) (ec : Nat) : List Value := [.int .i64 x.k, .int .i64 x.c, .int .u64 (x.a : Int), .int .u64 (x.b : Int), .slice D x.d.length dc, .slice E x.m ec]
def CellsA (w : World) (b o : Nat) (x : Acc) (D : Option Addr) (dc : Nat) (E : Option Addr) (ec : Nat) : Prop :=
 w.cell? ⟨b, o, none⟩ = some (.int .i64 x.k) ∧ w.cell? ⟨b, o + 1, none⟩ = some (.int .i64 x.c) ∧ w.cell? ⟨b, o + 2, none⟩ = some (.int .u64 (x.a : Int)) ∧ w.cell? ⟨b, o + 3, none⟩ = some (.int .u64 (x.b : Int)) ∧
 w.cell? ⟨b, o + 4, none⟩ = some (.slice D x.d.length dc) ∧ w.cell? ⟨b, o + 5, none⟩ = some (.slice E x.m ec)
theorem CellsA.below {w w' : World} {b o : Nat} {x : Acc} {D E : Option Addr} {dc ec : Nat} (h : CellsA w b o x D dc E ec) (hb : Below w.heap.size w w') (hlt : b < w.heap.size) : CellsA w' b o x D dc E ec := by
 have k : ∀ o, w'.cell? ⟨b, o, none⟩ = w.cell? ⟨b, o, none⟩ := fun o => hb.cell (p := ⟨b, o, none⟩) hlt
 obtain ⟨h1, h2, h3, h4, h5, h6⟩ := h
 exact ⟨(k _).trans h1, (k _).trans h2, (k _).trans h3, (k _).trans h4, (k _).trans h5, (k _).trans h6⟩
def AccsAt (w : World) (a : Option Addr) (n : Nat) (l : List Acc) : Prop :=
 l.length = n ∧ n ≤ 140737488355328 ∧ (0 < n → ∃ b off, a = some ⟨b, off, none⟩ ∧ b < w.heap.size ∧ ∀ j x, l[j]? = some x → ∃ D dc E ec, CellsA w b (off + j * 6) x D dc E ec ∧ AccP w x D dc E ec)
theorem AccsAt.nil (w : World) (a : Option Addr) : AccsAt w a 0 [] := ⟨rfl, by omega, fun h => by omega⟩
theorem AccsAt.later {w w' : World} {a : Option Addr} {n : Nat} {l : List Acc} (h : AccsAt w a n l) (hb : Below w.heap.size w w') : AccsAt w' a n l := by
 obtain ⟨h1, h2, h3⟩ := h
 refine ⟨h1, h2, fun hp => ?_⟩
 obtain ⟨b, off, e, hlt, hc⟩ := h3 hp
 refine ⟨b, off, e, Nat.lt_of_lt_of_le hlt hb.size, fun j x hx => ?_⟩
 obtain ⟨D, dc, E, ec, k1, k2⟩ := hc j x hx
 exact ⟨D, dc, E, ec, k1.below hb hlt, k2.later hb⟩
theorem AccsAt.at_ {w : World} {a : Option Addr} {n : Nat} {l : List Acc} (h : AccsAt w a n l) (j : Nat) (x : Acc) (hx : l[j]? = some x) :
  ∃ b off D dc E ec, a = some ⟨b, off, none⟩ ∧ b < w.heap.size ∧ CellsA w b (off + j * 6) x D dc E ec ∧ AccP w x D dc E ec := by
 have hj : j < n := by have := (List.getElem?_eq_some_iff.1 hx).1; have := h.1; omega
 obtain ⟨b, off, e, hlt, hc⟩ := h.2.2 (by omega)
 obtain ⟨D, dc, E, ec, k1, k2⟩ := hc j x hx
 exact ⟨b, off, D, dc, E, ec, e, hlt, k1, k2⟩
structure Res where
 n : Nat
 b : List Nat
 fl : Bool
def Res.zero : Res := ⟨0, [], false⟩
instance : Inhabited Res := ⟨Res.zero⟩
structure ResP (w : World) (x : Res) (B : Option Addr) (bc : Nat) : Prop where
 n : x.n < 18446744073709551616
 bl : x.b.length ≤ bc ∧ x.b.length ≤ 140737488355328
 b : AtB w B x.b.length x.b
theorem ResP.later {w w' : World} {x : Res} {B : Option Addr} {bc : Nat} (h : ResP w x B bc) (hb : Below w.heap.size w w') : ResP w' x B bc := ⟨h.n, h.bl, AtB.later (Lib.hid h.b) hb⟩
theorem ResP.zero (w : World) : ResP w Res.zero none 0 := ⟨by decide, by decide, AtB.nil _ _⟩
theorem ResP.num (w : World) (n : Nat) (h : n < 18446744073709551616) : ResP w ⟨n, [], false⟩ none 0 := ⟨h, ⟨Nat.le_refl 0, Nat.zero_le _⟩, AtB.nil _ _⟩
def CellsR (w : World) (b o : Nat) (x : Res) (B : Option Addr) (bc : Nat) : Prop :=
 w.cell? ⟨b, o, none⟩ = some (.int .u64 (x.n : Int)) ∧ w.cell? ⟨b, o + 1, none⟩ = some (.slice B x.b.length bc) ∧ w.cell? ⟨b, o + 2, none⟩ = some (.bool x.fl)
theorem CellsR.below {w w' : World} {b o : Nat} {x : Res} {B : Option Addr} {bc : Nat} (h : CellsR w b o x B bc) (hb : Below w.heap.size w w') (hlt : b < w.heap.size) : CellsR w' b o x B bc := by
 have k : ∀ o, w'.cell? ⟨b, o, none⟩ = w.cell? ⟨b, o, none⟩ := fun o => hb.cell (p := ⟨b, o, none⟩) hlt
 exact ⟨(k _).trans h.1, (k _).trans h.2.1, (k _).trans h.2.2⟩
def LogAt (w : World) (a : Option Addr) (n : Nat) (l : List Res) : Prop :=
 l.length = n ∧ n ≤ 140737488355328 ∧ (0 < n → ∃ b off, a = some ⟨b, off, none⟩ ∧ b < w.heap.size ∧ ∀ j x, l[j]? = some x → ∃ B bc, CellsR w b (off + j * 3) x B bc ∧ ResP w x B bc)
theorem LogAt.nil (w : World) (a : Option Addr) : LogAt w a 0 [] := ⟨rfl, by omega, fun h => by omega⟩
theorem LogAt.later {w w' : World} {a : Option Addr} {n : Nat} {l : List Res} (h : LogAt w a n l) (hb : Below w.heap.size w w') : LogAt w' a n l := by
 obtain ⟨h1, h2, h3⟩ := h
 refine ⟨h1, h2, fun hp => ?_⟩
 obtain ⟨b, off, e, hlt, hc⟩ := h3 hp
 refine ⟨b, off, e, Nat.lt_of_lt_of_le hlt hb.size, fun j x hx => ?_⟩
 obtain ⟨B, bc, k1, k2⟩ := hc j x hx
 exact ⟨B, bc, k1.below hb hlt, k2.later hb⟩
theorem LogAt.at_ {w : World} {a : Option Addr} {n : Nat} {l : List Res} (h : LogAt w a n l) (j : Nat) (x : Res) (hx : l[j]? = some x) :
  ∃ b off B bc, a = some ⟨b, off, none⟩ ∧ b < w.heap.size ∧ CellsR w b (off + j * 3) x B bc ∧ ResP w x B bc := by
 have hj : j < n := by have := (List.getElem?_eq_some_iff.1 hx).1; have := h.1; omega
 obtain ⟨b, off, e, hlt, hc⟩ := h.2.2 (by omega)
 obtain ⟨B, bc, k1, k2⟩ := hc j x hx
 exact ⟨b, off, B, bc, e, hlt, k1, k2⟩
def cutR (a : Option Addr) (cap lo : Nat) : Option Addr := if cap = lo then a else a.map (·.add (lo * 3))
theorem LogAt.cut {w : World} {a : Option Addr} {n cap : Nat} {l : List Res} (h : LogAt w a n l) (hc : n ≤ cap) (lo : Nat) (h1 : lo ≤ n) : LogAt w (cutR a cap lo) (n - lo) (l.drop lo) := by
 obtain ⟨h1', h2, h3⟩ := h
 refine ⟨by rw [List.length_drop]; omega, by omega, fun hp => ?_⟩
 obtain ⟨b, off, rfl, hlt, hcl⟩ := h3 (by omega)
 refine ⟨b, off + lo * 3, by unfold cutR; rw [if_neg (by omega)]; simp [Addr.add_lit], hlt, fun j x hx => ?_⟩
 rw [List.getElem?_drop] at hx
 have := hcl (lo + j) x hx
 rw [show off + lo * 3 + j * 3 = off + (lo + j) * 3 by omega]
 exact this
theorem elemR : Tryz.prog.underlying 65 = some (.slice (Tryz.prog.elem 65)) := by kernel_rfl
theorem elemR' : Tryz.prog.elem 65 = 81 := by kernel_rfl
theorem sizeR (w : World) : (sizeOf 81).run Tryz.prog w = .ok 3 w := by kernel_rfl
theorem run_cut_log (a : Option Addr) (len cap lo : Nat) (h1 : lo ≤ len) (W : World) :
  (Instr.slice 65 (.slice a len cap) (some (.int .i64 (lo : Int))) none none).run Tryz.prog W = .ok (.slice (cutR a cap lo) (len - lo) (cap - lo)) W := by
 rw [run_slice_l W 65 _ _ _ elemR .i64 _ (by omega) (by omega), elemR', sizeR]
 rfl
structure But (g : Nat) (w w' : World) : Prop where
 below : Below g w w'
 block : ∀ b, b < w.heap.size → b ≠ g → w'.heap[b]? = w.heap[b]?
section
variable {g : Nat} {w w' w2 : World}
theorem But.size (h : But g w w') : w.heap.size ≤ w'.heap.size := h.below.size
theorem But.refl (g : Nat) (w : World) : But g w w := ⟨Below.refl _ _, fun _ _ _ => rfl⟩
theorem But.trans (h : But g w w') (h2 : But g w' w2) : But g w w2 := ⟨h.below.trans h2.below, fun b hb hg => (h2.block b (Nat.lt_of_lt_of_le hb h.size) hg).trans (h.block b hb hg)⟩
theorem But.later (h : But g w w') (hb : Below w'.heap.size w' w2) (hg : g < w'.heap.size) : But g w w2 := ⟨h.below.trans (hb.mono (by omega)), fun b hlt hne => (hb.block b (Nat.lt_of_lt_of_le hlt h.size)).trans (h.block b hlt hne)⟩
theorem But.of (hb : Below w.heap.size w w') (hg : g ≤ w.heap.size) : But g w w' := ⟨hb.mono hg, fun b hlt _ => hb.block b hlt⟩
theorem But.drew (h : But g w w') : But g w w'.drew := ⟨h.below.drew, h.block⟩
theorem But.alloc (h : But g w w') (o : Obj) (hg : g ≤ w.heap.size) : But g w (w'.alloc o) := by
 have hb := al_below w' o
 exact ⟨h.below.alloc (Nat.le_trans hg h.size) o, fun b hlt hne => (hb.block b (Nat.lt_of_lt_of_le hlt h.size)).trans (h.block b hlt hne)⟩
theorem But.set (h : But g w w') (j : Nat) (v : Value) : But g w (w'.setCell ⟨g, j, none⟩ v) :=
 ⟨h.below.setCell (Nat.le_refl _) v, fun b hlt hne => (Below.heap_setCell w' ⟨g, j, none⟩ v b hne).trans (h.block b hlt hne)⟩
theorem But.new (h : But g w w') (b j : Nat) (v : Value) (hg : g ≤ w.heap.size) (hb : w.heap.size ≤ b) : But g w (w'.setCell ⟨b, j, none⟩ v) :=
 ⟨h.below.setCell (show g ≤ b by omega) v, fun c hlt hne => (Below.heap_setCell w' ⟨b, j, none⟩ v c (show c ≠ b by omega)).trans (h.block c hlt hne)⟩
theorem butA {g : Nat} {w w2 : World} (h : But g w w2 := by repeat (first | with_reducible assumption | with_reducible exact But.refl _ _ | with_reducible refine But.drew ?_ | (with_reducible refine But.alloc ?_ _ (by omega)) | (with_reducible refine But.set ?_ _ _) | (with_reducible refine But.new ?_ _ _ _ (by omega) (by omega)))) : But g w w2 := h
theorem But.cell (h : But g w w') {b o : Nat} (hlt : b < w.heap.size) (hne : b ≠ g) : w'.cell? ⟨b, o, none⟩ = w.cell? ⟨b, o, none⟩ := by
 have := h.block b hlt hne
 unfold World.cell?
 simp only [this]
theorem But.free (h : But g w w') {b o : Nat} (hlt : b < w.heap.size) (hne : b ≠ g) : w'.frozen? ⟨b, o, none⟩ = w.frozen? ⟨b, o, none⟩ := by
 have := h.block b hlt hne
 unfold World.frozen?
 simp only [this]
theorem VarAt.but {b : Nat} {vs : List Value} (hv : VarAt w b vs) (h : But g w w') (hne : b ≠ g) : VarAt w' b vs :=
 ⟨Nat.lt_of_lt_of_le hv.1 h.size, fun j v hj => (h.cell hv.1 hne).trans (hv.2.1 j v hj), fun j hj => (h.free hv.1 hne).trans (hv.2.2 j hj)⟩
end
theorem VarAt.nine {w : World} {b : Nat} {v0 v1 v2 v3 v4 v5 v6 v7 v8 : Value} (h : VarAt w b [v0, v1, v2, v3, v4, v5, v6, v7, v8]) :
  b < w.heap.size ∧ (w.cell? ⟨b, 0, none⟩ = some v0 ∧ w.cell? ⟨b, 1, none⟩ = some v1 ∧ w.cell? ⟨b, 2, none⟩ = some v2 ∧ w.cell? ⟨b, 3, none⟩ = some v3 ∧ w.cell? ⟨b, 4, none⟩ = some v4 ∧ w.cell? ⟨b, 5, none⟩ = some v5 ∧ w.cell? ⟨b, 6, none⟩ = some v6 ∧ w.cell? ⟨b, 7, none⟩ = some v7 ∧ w.cell? ⟨b, 8, none⟩ = some v8) ∧
  (w.frozen? ⟨b, 0, none⟩ = false ∧ w.frozen? ⟨b, 1, none⟩ = false ∧ w.frozen? ⟨b, 2, none⟩ = false ∧ w.frozen? ⟨b, 3, none⟩ = false ∧ w.frozen? ⟨b, 4, none⟩ = false ∧ w.frozen? ⟨b, 5, none⟩ = false ∧ w.frozen? ⟨b, 6, none⟩ = false ∧ w.frozen? ⟨b, 7, none⟩ = false ∧ w.frozen? ⟨b, 8, none⟩ = false) :=
 ⟨h.1, ⟨h.2.1 0 _ rfl, h.2.1 1 _ rfl, h.2.1 2 _ rfl, h.2.1 3 _ rfl, h.2.1 4 _ rfl, h.2.1 5 _ rfl, h.2.1 6 _ rfl, h.2.1 7 _ rfl, h.2.1 8 _ rfl⟩, h.2.2 0 (by simp), h.2.2 1 (by simp), h.2.2 2 (by simp), h.2.2 3 (by simp), h.2.2 4 (by simp), h.2.2 5 (by simp), h.2.2 6 (by simp), h.2.2 7 (by simp), h.2.2 8 (by simp)⟩
theorem VarAt.mk1 {w : World} {b : Nat} {v0 : Value} (hz : b < w.heap.size) (c0 : w.cell? ⟨b, 0, none⟩ = some v0 := by go_simp) (f0 : w.frozen? ⟨b, 0, none⟩ = false := by go_simp) : VarAt w b [v0] := by
 refine ⟨hz, fun j v hv => ?_, fun j hj => ?_⟩
 ·obtain rfl : j = 0 := by have := (List.getElem?_eq_some_iff.1 hv).1; simp at this; omega
  cases hv; assumption
 ·obtain rfl : j = 0 := by simp at hj; omega
  assumption
theorem VarAt.mk3 {w : World} {b : Nat} {v0 v1 v2 : Value} (hz : b < w.heap.size) (c0 : w.cell? ⟨b, 0, none⟩ = some v0 := by go_simp) (c1 : w.cell? ⟨b, 1, none⟩ = some v1 := by go_simp) (c2 : w.cell? ⟨b, 2, none⟩ = some v2 := by go_simp) (f0 : w.frozen? ⟨b, 0, none⟩ = false := by go_simp) (f1 : w.frozen? ⟨b, 1, none⟩ = false := by go_simp) (f2 : w.frozen? ⟨b, 2, none⟩ = false := by go_simp) : VarAt w b [v0, v1, v2] := by
 refine ⟨hz, fun j v hv => ?_, fun j hj => ?_⟩
 ·obtain rfl | rfl | rfl : j = 0 ∨ j = 1 ∨ j = 2 := by have := (List.getElem?_eq_some_iff.1 hv).1; simp at this; omega
  all_goals (cases hv; assumption)
 ·obtain rfl | rfl | rfl : j = 0 ∨ j = 1 ∨ j = 2 := by simp at hj; omega
  all_goals assumption
theorem VarAt.mk5 {w : World} {b : Nat} {v0 v1 v2 v3 v4 : Value} (hz : b < w.heap.size) (c0 : w.cell? ⟨b, 0, none⟩ = some v0 := by go_simp) (c1 : w.cell? ⟨b, 1, none⟩ = some v1 := by go_simp) (c2 : w.cell? ⟨b, 2, none⟩ = some v2 := by go_simp) (c3 : w.cell? ⟨b, 3, none⟩ = some v3 := by go_simp) (c4 : w.cell? ⟨b, 4, none⟩ = some v4 := by go_simp) (f0 : w.frozen? ⟨b, 0, none⟩ = false := by go_simp) (f1 : w.frozen? ⟨b, 1, none⟩ = false := by go_simp) (f2 : w.frozen? ⟨b, 2, none⟩ = false := by go_simp) (f3 : w.frozen? ⟨b, 3, none⟩ = false := by go_simp) (f4 : w.frozen? ⟨b, 4, none⟩ = false := by go_simp) : VarAt w b [v0, v1, v2, v3, v4] := by
 refine ⟨hz, fun j v hv => ?_, fun j hj => ?_⟩
 ·obtain rfl | rfl | rfl | rfl | rfl : j = 0 ∨ j = 1 ∨ j = 2 ∨ j = 3 ∨ j = 4 := by have := (List.getElem?_eq_some_iff.1 hv).1; simp at this; omega
  all_goals (cases hv; assumption)
 ·obtain rfl | rfl | rfl | rfl | rfl : j = 0 ∨ j = 1 ∨ j = 2 ∨ j = 3 ∨ j = 4 := by simp at hj; omega
  all_goals assumption
theorem VarAt.mk6 {w : World} {b : Nat} {v0 v1 v2 v3 v4 v5 : Value} (hz : b < w.heap.size) (c0 : w.cell? ⟨b, 0, none⟩ = some v0 := by go_simp) (c1 : w.cell? ⟨b, 1, none⟩ = some v1 := by go_simp) (c2 : w.cell? ⟨b, 2, none⟩ = some v2 := by go_simp) (c3 : w.cell? ⟨b, 3, none⟩ = some v3 := by go_simp) (c4 : w.cell? ⟨b, 4, none⟩ = some v4 := by go_simp) (c5 : w.cell? ⟨b, 5, none⟩ = some v5 := by go_simp) (f0 : w.frozen? ⟨b, 0, none⟩ = false := by go_simp) (f1 : w.frozen? ⟨b, 1, none⟩ = false := by go_simp) (f2 : w.frozen? ⟨b, 2, none⟩ = false := by go_simp) (f3 : w.frozen? ⟨b, 3, none⟩ = false := by go_simp) (f4 : w.frozen? ⟨b, 4, none⟩ = false := by go_simp) (f5 : w.frozen? ⟨b, 5, none⟩ = false := by go_simp) : VarAt w b [v0, v1, v2, v3, v4, v5] := by
 refine ⟨hz, fun j v hv => ?_, fun j hj => ?_⟩
 ·obtain rfl | rfl | rfl | rfl | rfl | rfl : j = 0 ∨ j = 1 ∨ j = 2 ∨ j = 3 ∨ j = 4 ∨ j = 5 := by have := (List.getElem?_eq_some_iff.1 hv).1; simp at this; omega
  all_goals (cases hv; assumption)
 ·obtain rfl | rfl | rfl | rfl | rfl | rfl : j = 0 ∨ j = 1 ∨ j = 2 ∨ j = 3 ∨ j = 4 ∨ j = 5 := by simp at hj; omega
  all_goals assumption
theorem VarAt.mk9 {w : World} {b : Nat} {v0 v1 v2 v3 v4 v5 v6 v7 v8 : Value} (hz : b < w.heap.size) (c0 : w.cell? ⟨b, 0, none⟩ = some v0 := by go_simp) (c1 : w.cell? ⟨b, 1, none⟩ = some v1 := by go_simp) (c2 : w.cell? ⟨b, 2, none⟩ = some v2 := by go_simp) (c3 : w.cell? ⟨b, 3, none⟩ = some v3 := by go_simp) (c4 : w.cell? ⟨b, 4, none⟩ = some v4 := by go_simp) (c5 : w.cell? ⟨b, 5, none⟩ = some v5 := by go_simp) (c6 : w.cell? ⟨b, 6, none⟩ = some v6 := by go_simp) (c7 : w.cell? ⟨b, 7, none⟩ = some v7 := by go_simp) (c8 : w.cell? ⟨b, 8, none⟩ = some v8 := by go_simp) (f0 : w.frozen? ⟨b, 0, none⟩ = false := by go_simp) (f1 : w.frozen? ⟨b, 1, none⟩ = false := by go_simp) (f2 : w.frozen? ⟨b, 2, none⟩ = false := by go_simp) (f3 : w.frozen? ⟨b, 3, none⟩ = false := by go_simp) (f4 : w.frozen? ⟨b, 4, none⟩ = false := by go_simp) (f5 : w.frozen? ⟨b, 5, none⟩ = false := by go_simp) (f6 : w.frozen? ⟨b, 6, none⟩ = false := by go_simp) (f7 : w.frozen? ⟨b, 7, none⟩ = false := by go_simp) (f8 : w.frozen? ⟨b, 8, none⟩ = false := by go_simp) : VarAt w b [v0, v1, v2, v3, v4, v5, v6, v7, v8] := by
 refine ⟨hz, fun j v hv => ?_, fun j hj => ?_⟩
 ·obtain rfl | rfl | rfl | rfl | rfl | rfl | rfl | rfl | rfl : j = 0 ∨ j = 1 ∨ j = 2 ∨ j = 3 ∨ j = 4 ∨ j = 5 ∨ j = 6 ∨ j = 7 ∨ j = 8 := by have := (List.getElem?_eq_some_iff.1 hv).1; simp at this; omega
  all_goals (cases hv; assumption)
 ·obtain rfl | rfl | rfl | rfl | rfl | rfl | rfl | rfl | rfl : j = 0 ∨ j = 1 ∨ j = 2 ∨ j = 3 ∨ j = 4 ∨ j = 5 ∨ j = 6 ∨ j = 7 ∨ j = 8 := by simp at hj; omega
  all_goals assumption
theorem ResP.kept {g : Nat} {w0 w W : World} {r : Res} {B : Option Addr} {bc : Nat} (h : ResP w0 r B bc) (h0 : Below w0.heap.size w0 w) (hb : But g w W) (hg : w0.heap.size ≤ g) : ResP W r B bc := h.later (h0.trans (hb.below.mono hg))
theorem gen_w {P : World → Prop} {W : World} (S : World → Prop) (hS : S W) (h : ∀ x, S x → P x) : P W := h W hS
end Go.Proofs.YtibpfkcackdbgaaGreatDoor
namespace Go.Proofs.YtibpfkcackdbgaaGreatDoor
open Go.ChangeShapes Go.WideShapes Go.ChangeAt Go.RowKit Go.BigFrame
set_option linter.unusedVariables false
set_option maxRecDepth 100000
def Svd (Q : Nat → Prop) (y x : World) : Prop := y.heap.size ≤ x.heap.size ∧ ∀ b o, b < y.heap.size → Q b → x.cell? ⟨b, o, none⟩ = y.cell? ⟨b, o, none⟩
section
variable {Q : Nat → Prop} {y x : World}
theorem Svd.refl (Q : Nat → Prop) (y : World) : Svd Q y y := ⟨Nat.le_refl _, fun _ _ _ _ => rfl⟩
theorem Svd.drew (h : Svd Q y x) : Svd Q y x.drew := h
theorem Svd.alloc (h : Svd Q y x) (o : Obj) : Svd Q y (x.alloc o) := by
 have hb := al_below x o
 exact ⟨Nat.le_trans h.1 hb.size, fun b o hlt hq => (hb.cell (p := ⟨b, o, none⟩) (Nat.lt_of_lt_of_le hlt h.1)).trans (h.2 b o hlt hq)⟩
theorem Svd.set (h : Svd Q y x) (b j : Nat) (v : Value) (hb : b < y.heap.size → ¬ Q b) : Svd Q y (x.setCell ⟨b, j, none⟩ v) := by
 refine ⟨by simpa using h.1, fun g o hlt hq => ?_⟩
 rw [World.cell?_setCell_other _ _ _ _ (fun e => by
  have e2 : b = g := by first | exact congrArg Addr.block e | exact (congrArg Addr.block e).symm
  subst e2
  exact hb hlt hq)]
 exact h.2 g o hlt hq
theorem AtW.svd {a : Option Addr} {n : Nat} {f : Nat → Nat} (h : AtW y a n f) (hK : Svd Q y x) (hO : OffW Q a n) : AtW x a n f := by
 refine ⟨h.1, fun hp => ?_⟩
 obtain ⟨b, off, e, hlt, hc⟩ := h.2 hp
 exact ⟨b, off, e, Nat.lt_of_lt_of_le hlt hK.1, fun j hj => (hK.2 _ _ hlt (hO hp b off e)).trans (hc j hj)⟩
theorem AtB.svd {a : Option Addr} {n : Nat} {xs : List Nat} (h : AtB y a n xs) (hK : Svd Q y x) (hO : OffW Q a n) : AtB x a n xs := by
 refine ⟨h.1, h.2.1, h.2.2.1, fun hp => ?_⟩
 obtain ⟨b, off, e, hlt, hc⟩ := h.2.2.2 hp
 exact ⟨b, off, e, Nat.lt_of_lt_of_le hlt hK.1, fun j hj => (hK.2 _ _ hlt (hO hp b off e)).trans (hc j hj)⟩
end
theorem eql_nil_w (w : World) (n c : Nat) : (binOp .eql 24 (.slice none n c) (.slice none 0 0)).run Tryz.prog w = .ok (.bool true) w := Lib.run_eql_slice_nil w 24 _ none n c 0 0 Tryz.underlying24
theorem eql_nil_i (w : World) (n c : Nat) : (binOp .eql 35 (.slice none n c) (.slice none 0 0)).run Tryz.prog w = .ok (.bool true) w := Lib.run_eql_slice_nil w 35 _ none n c 0 0 Tryz.underlying35
def WdsPost (w : World) (n : Nat) (f : Nat → Nat) (e : Ending) (w' : World) : Prop := ∃ A c, e = .returned (.slice A n c) ∧ n ≤ c ∧ AtW w' A n f ∧ Below w.heap.size w w' ∧ OffW (fun b => w.heap.size ≤ b) A n
theorem cloneI_nil (w : World) : Calls Tryz.prog 97 #[.slice none 0 0] w fun e w' => e = .returned (.slice none 0 0) ∧ w = w' := by
 have ke := fun w => eql_nil_i w 0 0
 go_enter Tryz.func97, Tryz.ntmps97
 go_wp2_with fail
 go_ret
 exact ⟨rfl, rfl⟩
theorem append_none (w : World) (ty : TypeId) (ad : Addr) (c : Nat) (f : Nat → Nat) (base : Nat) (hbase : w.heap.size = base) :
  ∃ A cap w', (Builtin.append_ #[24, 24] ty #[.slice (some ⟨base, 0, none⟩) 0 0, .slice (some ad) 0 c]).run Tryz.prog (w.alloc (.cells #[] 27)) = .ok (.slice A 0 cap) w' ∧ Below base w w' := by
 subst hbase
 obtain ⟨i, hi, hz0, hz1, hz2⟩ := info_parts infoW
 have hown0 : (w.alloc (.cells #[] 27)).ownsRow w.heap.size 27 1 (.slice (some ⟨w.heap.size, 0, none⟩) 0 0) 0 [] := World.ownsRow_made w #[] 0 (Nat.le_refl _) (Nat.zero_le _) rfl
 have hB1 : Below w.heap.size w (w.alloc (.cells #[] 27)) := al_below _ _
 obtain ⟨v', w', h1, h2, h3, _⟩ := run_append_own (P := Tryz.prog) (w.alloc (.cells #[] 27)) w.heap.size 24 ty 27 i _ 1 8 Tryz.underlying24 hi hz0 hz1 hz2 rfl (by decide) _ 0 [] hown0 ad 0 c []
  rfl (fun j u hu => by simp at hu) (by simp) (by unfold maxLen; omega) (by omega) (by simp)
 have hb : Below w.heap.size w w' := hB1.grown h3 (by simp) (fun k hk => by simp [Value.ownBlock] at hk; omega)
 rcases h2.2 with ⟨rfl, h0⟩ | ⟨g, cap, cur, rfl, hg, hgb, hcap, _⟩
 ·exact ⟨none, 0, w', h1, hb⟩
 ·exact ⟨some ⟨g, 0, none⟩, cap, w', h1, hb⟩
theorem wpList_append_none {ops : Array Oper} {rest : List Oper} {o : Oper} {a : Act} {w : World} {Q : Exit → Act → World → Prop} (hw : Region.wanted o (yielded ops a.tmps) = true) (s x : Operand)
  (ho : o.op = .call { callee := .builtin .append, args := #[s, x], argTypes := #[24, 24] }) (base : Nat) (hs : a.eval s = .slice (some ⟨base, 0, none⟩) 0 0)
  (ad : Addr) (c : Nat) (hx : a.eval x = .slice (some ad) 0 c) (hbase : w.heap.size = base)
  (h : ∀ A cap w', Below base w w' → wpList Tryz.prog ops Q rest (a.put o.dst (.slice A 0 cap)) w') :
  wpList Tryz.prog ops Q (o :: rest) a (w.alloc (.cells #[] 27)) := by
 obtain ⟨A, cap, w', hr, h4⟩ := append_none w o.type ad c (fun _ => 0) base hbase
 refine BigFrame.wpList_want hw fun K hK => ?_
 unfold Oper.wp execOp
 simp only [ho, resolve, invoke, builtin, Sem.run_bind, Sem.run_pure, Result.andThen_ok, List.map_toArray, List.map_cons, List.map_nil, hs, hx, hr]
 exact hK _ _ (h A cap w' h4)
theorem cloneWs_at (A : Option Addr) (n c : Nat) (f : Nat → Nat) (hn : n ≤ 1000000) (w : World) (hA : Hid (AtW w A n f)) :
  Calls Tryz.prog 127 #[.slice A n c] w (WdsPost w n f) := by
 rcases Nat.eq_zero_or_pos n with rfl | hp
 ·rcases A with _ | ad
  ·have ke := fun w => eql_nil_w w 0 c
   go_enter Tryz.func127, Tryz.ntmps127
   go_wp2_with fail
   go_ret
   exact ⟨none, 0, rfl, Nat.le_refl _, ⟨hA.out.1, fun h => by omega⟩, Below.refl _ _, OffW.nil _ _⟩
  ·have ke := fun w => eql_some_w w ad 0 c
   go_enter Tryz.func127, Tryz.ntmps127
   go_wp2_with (at_builtin; (refine wpList_append_none (by rfl) (.tmp 5) (.tmp 6) (by rfl) w.heap.size (by rfl) ad c (by rfl) (by rfl) ?_); (intro A' cap w' hb; have HB := Lib.hid hb; clear hb))
   go_ret
   exact ⟨A', cap, rfl, Nat.zero_le _, ⟨hA.out.1, fun h => by omega⟩, HB.out, OffW.nil _ _⟩
 ·refine (cloneW_at A n c f hp hn w hA).mono ?_
  rintro e w' ⟨g, c', rfl, hc, hg, hrow, hb⟩
  exact ⟨_, c', rfl, hc, hrow.at_, hb, OffW.one n hg⟩
abbrev tapeV (A : Option Addr) (n cap : Nat) (p o : Bool) (q0 q1 q2 q3 q4 q5 : Value) : List Value := [.slice A n cap, .bool p, .bool o, q0, q1, q2, q3, q4, q5]
def ToldPost (w0 w : World) (g : Nat) (r : Res) (m : Nat) (rest : List Res) (p o : Bool) (q0 q1 q2 q3 q4 q5 : Value) (e : Ending) (w' : World) : Prop :=
 ∃ B bc A cap, e = .returned (.agg #[.int .u64 (r.n : Int), .slice B r.b.length bc, .bool r.fl]) ∧ ResP w' r B bc ∧ VarAt w' g (tapeV A m cap p o q0 q1 q2 q3 q4 q5) ∧ LogAt w0 A m rest ∧ m ≤ cap ∧ But g w w'
set_option maxHeartbeats 1000000 in
theorem do_told (g : Nat) (A : Option Addr) (n m cap : Nat) (hn : n = m + 1) (r : Res) (rest : List Res) (p o : Bool) (q0 q1 q2 q3 q4 q5 : Value) (k c : Int) (a b : Nat) (D : Option Addr) (dn dc : Nat) (E : Option Addr) (en ec : Nat) (w0 w : World)
  (hT : Hid (VarAt w g (tapeV A n cap p o q0 q1 q2 q3 q4 q5))) (hL : Hid (LogAt w0 A n (r :: rest))) (hc : n ≤ cap) (h0 : Hid (Below w0.heap.size w0 w)) (hg : w0.heap.size ≤ g) :
  Calls Tryz.prog 142 #[.pointer (some ⟨g, 0, none⟩), .agg #[.int .i64 k, .int .i64 c, .int .u64 (a : Int), .int .u64 (b : Int), .slice D dn dc, .slice E en ec]] w (ToldPost w0 w g r m rest p o q0 q1 q2 q3 q4 q5) := by
 obtain ⟨gb, go, B, bc, rfl, hlt0, hcl0, hrp⟩ := hL.out.at_ 0 r rfl
 have hlt := Nat.lt_of_lt_of_le hlt0 h0.out.size
 have hcl := hcl0.below h0.out hlt0
 clear hlt0 hcl0
 have hcut : ∀ W, (Instr.slice 65 (.slice (some ⟨gb, go, none⟩) n cap) (some (.int .i64 1)) none none).run Tryz.prog W = .ok (.slice (cutR (some ⟨gb, go, none⟩) cap 1) (n - 1) (cap - 1)) W := fun W => run_cut_log (some ⟨gb, go, none⟩) n cap 1 (by omega) W
 have HCL := Lib.hid ((hL.out.cut hc 1 (by omega)))
 simp only [List.drop_succ_cons, List.drop_zero] at HCL
 have e1 : n - 1 = m := by omega
 rw [e1] at HCL hcut
 generalize cutR (some ⟨gb, go, none⟩) cap 1 = A' at hcut HCL
 generalize hcap' : cap - 1 = cap' at hcut
 have HCC : Hid (m ≤ cap') := Lib.hid (by omega)
 have HRP := Lib.hid hrp
 have HG := Lib.hid hg
 rw [Nat.zero_mul, Nat.add_zero] at hcl
 obtain ⟨z0, z1, z2⟩ := hcl
 have hne : gb ≠ g := by
  obtain ⟨b', o', e', hlt', _⟩ := hL.out.2.2 (by omega)
  cases e'
  omega
 have d0 : decide ((0 : Int) < (n : Int)) = true := by rw [decide_eq_true_iff]; omega
 have i1 : (0 : Int) ≤ 0 ∧ (0 : Int) < (n : Int) := ⟨by omega, by omega⟩
 have i2 : (0 : Int) < (n : Int) := by omega
 obtain ⟨hgz, ⟨c0, c1, c2, c3, c4, c5, c6, c7, c8⟩, f0, f1, f2, f3, f4, f5, f6, f7, f8⟩ := hT.out.nine
 have hn1 : ¬ (gb = g) := hne
 have hn2 : ¬ (g = gb) := fun e => hne e.symm
 have g1 : g < w.heap.size + 1 := by omega
 have g2 : g < w.heap.size + 1 + 1 := by omega
 have g3 : ¬ (g = w.heap.size) := by omega
 have g4 : ¬ (g = w.heap.size + 1) := by omega
 have g5 : ¬ (g = w.heap.size + 1 + 1) := by omega
 clear hrp hcap' e1 hn hc hg
 go_enter Tryz.func142, Tryz.ntmps142
 go_wp2_with fail
 refine gen_w (P := fun W => Calls _ _ _ W _) (fun x => But g w x ∧ VarAt x g (tapeV A' m cap' p o q0 q1 q2 q3 q4 q5) ∧ VarAt x (w.heap.size + 1) [.int .u64 0, .slice none 0 0, .bool false] ∧ VarAt x (w.heap.size + 1 + 1) [.int .u64 (r.n : Int), .slice B r.b.length bc, .bool r.fl]) ⟨butA, VarAt.mk9 (by simp; omega), VarAt.mk3 (by simp), VarAt.mk3 (by simp)⟩ ?_
 rintro x ⟨k0, k1, k2, k3⟩
 have K0 := Lib.hid k0
 have K1 := Lib.hid k1
 have K2 := Lib.hid k2
 have K3 := Lib.hid k3
 have hrx := HRP.out.kept h0.out k0 HG.out
 clear k0 k1 k2 k3 c0 c1 c2 c3 c4 c5 c6 c7 c8 f0 f1 f2 f3 f4 f5 f6 f7 f8 z0 z1 z2
 refine (cloneBC_at B _ bc r.b hrx.bl.2 x (Lib.hid hrx.b)).mono ?_
 rintro e w2 ⟨B2, bc2, rfl, hc2, hat2, hb2, hn2⟩
 have HN2 : Hid (OffW (Out (w.heap.size + 1) 2) B2 r.b.length) := Lib.hid (fun _ b off e => by have h1 := hn2 b off e; have h2 := K3.out.1; exact .inr (by omega))
 have k0 := K0.out.later hb2 (K1.out.1)
 have HAT := Lib.hid hat2
 have HC2 := Lib.hid hc2
 obtain ⟨y0, c0, c1, c2, f0, f1, f2⟩ := (K2.out.below hb2).three
 obtain ⟨y1, t0, t1, t2, s0, s1, s2⟩ := (K3.out.below hb2).three
 have HV := Lib.hid (K1.out.below hb2)
 have K := Lib.hid k0
 clear k0 hrx hb2 hat2 hc2 K0 K1 K2 K3
 clear hn2
 go_wp2_with fail
 have k := K.out
 exact bodyPost_ret (v := .agg #[.int .u64 (r.n : Int), .slice B2 r.b.length bc2, .bool r.fl]) (by simp [results, Tryz.results142, go_sem, c0, c1, c2]) rfl
  ⟨B2, bc2, A', cap', rfl, ⟨HRP.out.n, ⟨HC2.out, HRP.out.bl.2⟩, HAT.out.alike (N := w.heap.size + 1) (k := 2) (by repeat (first | with_reducible exact Alike.refl _ _ _ | with_reducible refine Alike.drew ?_ | (with_reducible refine Alike.set ?_ _ _ _ (by omega) (by omega)))) HN2.out⟩, (((HV.out.apart _ _ (by omega)).apart _ _ (by omega)).apart _ _ (by omega)).apart _ _ (by omega), HCL.out, HCC.out, butA⟩
def LeftPost (w : World) (g : Nat) (x : Acc) (p : Bool) (e : Ending) (w' : World) : Prop :=
 ∃ D dc E ec A cap, e = .panicked [{ v := .iface 157 (.pointer (some ⟨g, 0, none⟩)), recovered := false }] ∧ VarAt w' g (tapeV A 0 cap p true (.int .i64 x.k) (.int .i64 x.c) (.int .u64 (x.a : Int)) (.int .u64 (x.b : Int)) (.slice D x.d.length dc) (.slice E x.m ec)) ∧ AccP w' x D dc E ec ∧ But g w w' ∧ OffW (fun b => w.heap.size ≤ b) D x.d.length ∧ OffW (fun b => w.heap.size ≤ b) E x.m
set_option maxHeartbeats 1000000 in
theorem do_left (g : Nat) (A : Option Addr) (cap : Nat) (p : Bool) (q0 q1 q2 q3 q4 q5 : Value) (x : Acc) (hm : x.m ≤ 1000000) (D : Option Addr) (dc : Nat) (E : Option Addr) (ec : Nat) (w0 w : World)
  (hT : Hid (VarAt w g (tapeV A 0 cap p false q0 q1 q2 q3 q4 q5))) (hX : Hid (AccP w0 x D dc E ec)) (h0 : Hid (Below w0.heap.size w0 w)) (hg : w0.heap.size ≤ g) :
  Calls Tryz.prog 142 #[.pointer (some ⟨g, 0, none⟩), .agg #[.int .i64 x.k, .int .i64 x.c, .int .u64 (x.a : Int), .int .u64 (x.b : Int), .slice D x.d.length dc, .slice E x.m ec]] w (LeftPost w g x p) := by
 have HG := Lib.hid hg
 have HM := Lib.hid hm
 obtain ⟨hgz, ⟨c0, c1, c2, c3, c4, c5, c6, c7, c8⟩, f0, f1, f2, f3, f4, f5, f6, f7, f8⟩ := hT.out.nine
 have g1 : g < w.heap.size + 1 := by omega
 have g2 : g < w.heap.size + 1 + 1 := by omega
 have g3 : ¬ (g = w.heap.size) := by omega
 have g4 : ¬ (g = w.heap.size + 1) := by omega
 have g6 : ¬ (w.heap.size = g) := by omega
 have g7 : ¬ (w.heap.size + 1 = g) := by omega
 clear hg hm
 go_enter Tryz.func142, Tryz.ntmps142
 go_upto_region 8 with fail
 refine gen_w (P := fun W => Code.wp _ _ _ _ W) (fun y => But g w y ∧ y.heap.size = w.heap.size + 1 + 1 ∧ VarAt y g (tapeV A 0 cap p true q0 q1 q2 q3 q4 q5) ∧ VarAt y w.heap.size (accA x D dc E ec)) ⟨butA, by simp, VarAt.mk9 (by simp; omega), VarAt.mk6 (by simp; omega)⟩ ?_
 rintro y ⟨k0, k1, k2, k3⟩
 obtain ⟨N, hN⟩ : ∃ N, w.heap.size = N := ⟨_, rfl⟩
 rw [hN] at k1 k3 g1 g2 g3 g4 g6 g7 hgz ⊢
 have hxy := hX.out.later (h0.out.trans (k0.below.mono HG.out))
 have K0 := Lib.hid k0
 have K1 := Lib.hid k1
 have K2 := Lib.hid k2
 have K3 := Lib.hid k3
 have HD := Lib.hid hxy.d
 have HF := Lib.hid hxy.f
 have HL := Lib.hid hxy.dl.2
 have HNN := Lib.hid hN
 obtain ⟨z, ⟨b0, b1, b2, b3, b4, b5⟩, h0', h1', h2', h3', h4', h5'⟩ := k3.six
 clear c0 c1 c2 c3 c4 c5 c6 c7 c8 f0 f1 f2 f3 f4 f5 f6 f7 f8 k0 k1 k2 k3 hxy hN
 go_region_with (first
  | (go_at_call 169; (with_reducible refine (cloneBC_at D _ dc x.d HL.out _ (Lib.hid (HD.out.below (B := y.heap.size) (by repeat (first | with_reducible assumption | with_reducible exact Below.refl _ _ | with_reducible refine Below.drew ?_ | with_reducible refine below_al ?_)) (Nat.le_refl _)))).mono ?_); rintro e w2 ⟨B2, bc2, rfl, hc2, hat2, hb2, hn2⟩; have hy2 : Below y.heap.size y w2 := below_step hb2 (by repeat (first | with_reducible assumption | with_reducible exact Below.refl _ _ | with_reducible refine Below.drew ?_ | with_reducible refine below_al ?_)); have HN2 := Lib.hid hn2; have HC2 := Lib.hid hc2; have HAT := Lib.hid hat2; have HY2 := Lib.hid hy2; obtain ⟨z2, ⟨e0, e1, e2, e3, e4, e5⟩, i0, i1, i2, i3, i4, i5⟩ := (K3.out.below hy2).six; clear hc2 hat2 hb2 hn2 hy2)
  | (go_at_call 127; have hw2 := HY2.out; (with_reducible refine (cloneWs_at E _ ec x.f HM.out _ (Lib.hid (HF.out.below (B := y.heap.size) (by repeat (first | with_reducible assumption | with_reducible exact Below.refl _ _ | with_reducible refine Below.drew ?_ | with_reducible refine below_al ?_)) (Nat.le_refl _)))).mono ?_); rintro e w3 ⟨B3, bc3, rfl, hc3, hat3, hb3, hn3⟩; have hy3 : Below y.heap.size y w3 := below_step hb3 (by repeat (first | with_reducible assumption | with_reducible exact Below.refl _ _ | with_reducible refine Below.drew ?_ | with_reducible refine below_al ?_)); have HN3 := Lib.hid hn3; have HC3 := Lib.hid hc3; have HAT3 := Lib.hid hat3; have HB3 := Lib.hid hb3; have HY3 := Lib.hid hy3; obtain ⟨z3, ⟨j0, j1, j2, j3, j4, j5⟩, l0, l1, l2, l3, l4, l5⟩ := (K3.out.below hy3).six; obtain ⟨z4, ⟨t0, t1, t2, t3, t4, t5, t6, t7, t8⟩, s0, s1, s2, s3, s4, s5, s6, s7, s8⟩ := (K2.out.below hy3).nine; clear hc3 hat3 hb3 hn3 hy3 hw2))
 all_goals
  go_wp2_with fail
  have k0 := K0.out
  have k1 := K1.out
  have y3 := HY3.out
  have kN := HNN.out
  have kx := hX.out
  have ko := HB3.out.size
  have hbw : But g w w3 := k0.later y3 (by omega)
  have hy2s := HY2.out.size
  refine ⟨rfl, B2, bc2, B3, bc3, A, cap, rfl, VarAt.mk9 (by simp; omega), ⟨kx.k, kx.c, kx.a, kx.b, ⟨HC2.out, kx.dl.2⟩, ⟨HC3.out, kx.ml.2⟩, AtB.svd (Q := fun b => b ≠ N ∧ b ≠ g) (AtB.later HAT HB3.out) (by repeat (first | with_reducible exact Svd.refl _ _ | with_reducible refine Svd.drew ?_ | (with_reducible refine Svd.set ?_ _ _ _ (by omega)))) (fun _ b off e => by have h1 : y.heap.size ≤ b := HN2.out b off e; omega), AtW.svd (Q := fun b => b ≠ N ∧ b ≠ g) HAT3.out (by repeat (first | with_reducible exact Svd.refl _ _ | with_reducible refine Svd.drew ?_ | (with_reducible refine Svd.set ?_ _ _ _ (by omega)))) (HN3.out.mono fun b h => by omega)⟩, butA, (fun _ b off e => by have h1 : y.heap.size ≤ b := HN2.out b off e; omega), HN3.out.mono fun b h => by omega⟩
end Go.Proofs.YtibpfkcackdbgaaGreatDoor
namespace Go.Proofs.YtibpfkcackdbgaaGreatDoor
open Go.ChangeShapes Go.WideShapes Go.ChangeAt Go.RowKit Go.BigFrame
set_option linter.unusedVariables false
set_option maxRecDepth 100000
theorem ta_tape (v : Value) (w : World) : (Instr.typeAssert (.iface 157 v) 20 157 true).run Tryz.prog w = .ok (.tuple #[v, .bool true]) w := by kernel_rfl
theorem ta_none (w : World) : (Instr.typeAssert .nilIface 20 157 true).run Tryz.prog w = .ok (.tuple #[.pointer none, .bool false]) w := by kernel_rfl
theorem catch_left (pb g : Nat) (x : Bool) (older : List PanicEntry) (w : World) (hp : w.cell? ⟨pb, 0, none⟩ = some (.pointer (some ⟨g, 0, none⟩))) (hc : w.cell? ⟨g, 1, none⟩ = some (.bool x)) (hz : w.frozen? ⟨g, 1, none⟩ = false) :
  CallsD Tryz.prog 141 #[.pointer (some ⟨pb, 0, none⟩)] (.panicking ({ v := .iface 157 (.pointer (some ⟨g, 0, none⟩)), recovered := false } :: older)) w fun e u' w' =>
   e = .returned (.tuple #[]) ∧ u' = .panicking ({ v := .iface 157 (.pointer (some ⟨g, 0, none⟩)), recovered := true } :: older) ∧ w' = w.setCell ⟨g, 1, none⟩ (.bool false) := by
 refine callsD_of_wpS Tryz.func141 rfl fun c₀ cs hu => ?_
 apply wpS_seq
 apply wpS_region
 simp [wpOpsS, go_sem, hp, hc, hz, Tryz.ntmps141, Exit.thenS]
 apply wpS_seq
 apply wpS_region
 simp [wpOpsS, go_sem, recoverD, hu, ta_tape, Exit.thenS]
 apply wpS_seq
 apply wpS_region
 simp [wpOpsS, go_sem, hc, Exit.thenS, Region.wanted, yielded]
 refine wpS_cond (t := false) (by simp [Act.eval, Array.replicate]) ?_
 simp only [Bool.false_eq_true, if_false]
 refine wpS_of_wp (wp_skip ?_)
 simp_all [bodyPostS, results, Tryz.results141]
theorem catch_idle (pb g : Nat) (x : Bool) (w : World) (hp : w.cell? ⟨pb, 0, none⟩ = some (.pointer (some ⟨g, 0, none⟩))) (hc : w.cell? ⟨g, 1, none⟩ = some (.bool x)) (hz : w.frozen? ⟨g, 1, none⟩ = false) :
  CallsD Tryz.prog 141 #[.pointer (some ⟨pb, 0, none⟩)] .returning w fun e u' w' =>
   e = .returned (.tuple #[]) ∧ u' = .returning ∧ w' = w.setCell ⟨g, 1, none⟩ (.bool false) := by
 refine callsD_of_wpS Tryz.func141 rfl fun c₀ cs hu => ?_
 apply wpS_seq
 apply wpS_region
 simp [wpOpsS, go_sem, hp, hc, hz, Tryz.ntmps141, Exit.thenS]
 apply wpS_seq
 apply wpS_region
 simp [wpOpsS, go_sem, recoverD, hu, ta_none, Exit.thenS]
 apply wpS_seq
 apply wpS_region
 simp [wpOpsS, go_sem, Exit.thenS, Region.wanted, yielded]
 refine wpS_cond (t := false) (by simp [Act.eval, Array.replicate]) ?_
 simp only [Bool.false_eq_true, if_false]
 refine wpS_of_wp (wp_skip ?_)
 cases c₀
 simp_all [bodyPostS, results, Tryz.results141]
def PlayLeft (g : Nat) (x : Acc) (w : World) (e : Ending) (w' : World) : Prop :=
 ∃ D dc E ec A cap, e = .returned (.tuple #[.agg #[.int .i64 0, .bool false, .int .i64 0, .int .u64 0, .slice none 0 0], .bool false]) ∧ VarAt w' g (tapeV A 0 cap false true (.int .i64 x.k) (.int .i64 x.c) (.int .u64 (x.a : Int)) (.int .u64 (x.b : Int)) (.slice D x.d.length dc) (.slice E x.m ec)) ∧ AccP w' x D dc E ec ∧ But g w w' ∧ OffW (fun b => w.heap.size ≤ b) D x.d.length ∧ OffW (fun b => w.heap.size ≤ b) E x.m
def RunLeft (x : Acc) (w : World) (e : Ending) (w' : World) : Prop := ∃ D dc E ec, e = .returned (.tuple #[.agg #[.int .i64 x.k, .int .i64 x.c, .int .u64 (x.a : Int), .int .u64 (x.b : Int), .slice D x.d.length dc, .slice E x.m ec], .agg #[.int .i64 0, .bool false, .int .i64 0, .int .u64 0, .slice none 0 0], .bool false]) ∧ AccP w' x D dc E ec ∧ Below w.heap.size w w' ∧ OffW (fun b => w.heap.size ≤ b) D x.d.length ∧ OffW (fun b => w.heap.size ≤ b) E x.m
end Go.Proofs.YtibpfkcackdbgaaGreatDoor
namespace Go.Proofs.YtibpfkcackdbgaaGreatDoor
open Go.ChangeShapes Go.WideShapes Go.ChangeAt Go.RowKit Go.BigFrame
set_option linter.unusedVariables false
set_option maxRecDepth 100000
theorem field_n (a b c : Value) (W : World) : (Instr.field 81 (.agg #[a, b, c]) 0).run Tryz.prog W = .ok a W := by kernel_rfl
end Go.Proofs.YtibpfkcackdbgaaGreatDoor
