/- Wds -/
import Derived.Test.YtibpfkcackdbgaaGreatDoorBase
import Derived.Test.YtibpfkcackdbgaaGreatDoorFields
import Derived.Deep.OwnRows
namespace Go.Proofs.YtibpfkcackdbgaaGreatDoor
open Go.ChangeShapes Go.WideShapes Go.ChangeAt Go.RowKit Go.Deep
set_option linter.unusedVariables false
set_option maxRecDepth 100000
def AtW (w : World) (a : Option Addr) (n : Nat) (f : Nat → Nat) : Prop :=
 (∀ j, f j < 18446744073709551616) ∧
 (0 < n → ∃ b off, a = some ⟨b, off, none⟩ ∧ b < w.heap.size ∧ ∀ j, j < n → w.cell? ⟨b, off + j, none⟩ = some (.int .u64 ((f j : Nat) : Int)))
theorem AtW.below {B : Nat} {w w' : World} {a : Option Addr} {n : Nat} {f : Nat → Nat} (h : AtW w a n f) (hb : Below B w w') (hB : w.heap.size ≤ B) : AtW w' a n f := by
 refine ⟨h.1, fun hp => ?_⟩
 obtain ⟨b, off, e, hlt, hc⟩ := h.2 hp
 exact ⟨b, off, e, Nat.lt_of_lt_of_le hlt hb.size, fun j hj => (hb.cell (p := ⟨b, off + j, none⟩) (Nat.lt_of_lt_of_le hlt hB)).trans (hc j hj)⟩
theorem AtW.later {w w' : World} {a : Option Addr} {n : Nat} {f : Nat → Nat} (h : AtW w a n f) (hb : Below w.heap.size w w') : AtW w' a n f := h.below hb (Nat.le_refl _)
theorem AtW.nil (w : World) (a : Option Addr) : AtW w a 0 (fun _ => 0) := ⟨fun _ => show (0 : Nat) < _ by decide, fun h => by omega⟩
def RowW (w : World) (g n : Nat) (f : Nat → Nat) : Prop :=
 g < w.heap.size ∧ (∀ j, f j < 18446744073709551616) ∧ (∀ j, j < n → w.cell? ⟨g, j, none⟩ = some (.int .u64 ((f j : Nat) : Int))) ∧ ∀ j, w.frozen? ⟨g, j, none⟩ = false
theorem RowW.below {B : Nat} {w w' : World} {g n : Nat} {f : Nat → Nat} (h : RowW w g n f) (hb : Below B w w') (hB : w.heap.size ≤ B) : RowW w' g n f :=
 ⟨Nat.lt_of_lt_of_le h.1 hb.size, h.2.1, fun j hj => (hb.cell (p := ⟨g, j, none⟩) (Nat.lt_of_lt_of_le h.1 hB)).trans (h.2.2.1 j hj), fun j => (hb.frozen (p := ⟨g, j, none⟩) (Nat.lt_of_lt_of_le h.1 hB)).trans (h.2.2.2 j)⟩
theorem RowW.later {w w' : World} {g n : Nat} {f : Nat → Nat} (h : RowW w g n f) (hb : Below w.heap.size w w') : RowW w' g n f := h.below hb (Nat.le_refl _)
theorem RowW.at_ {w : World} {g n : Nat} {f : Nat → Nat} (h : RowW w g n f) : AtW w (some ⟨g, 0, none⟩) n f :=
 ⟨h.2.1, fun _ => ⟨g, 0, rfl, h.1, fun j hj => by rw [Nat.zero_add]; exact h.2.2.1 j hj⟩⟩
theorem RowW.drewN {w : World} {g n : Nat} {f : Nat → Nat} (h : RowW w g n f) (k : Nat) : RowW (w.drewN k) g n f := h
theorem RowW.as {w : World} {g n : Nat} {f f' : Nat → Nat} (h : RowW w g n f) (hf : ∀ j, f' j < 18446744073709551616) (he : ∀ j, j < n → f' j = f j) : RowW w g n f' :=
 ⟨h.1, hf, fun j hj => by rw [he j hj]; exact h.2.2.1 j hj, h.2.2.2⟩
theorem RowW.stored {w : World} {g n : Nat} {f : Nat → Nat} (h : RowW w g n f) (p v : Nat) (hp : p < n) (f' : Nat → Nat) (hf : ∀ j, f' j < 18446744073709551616) (he : ∀ j, j < n → f' j = if j = p then v else f j) :
  RowW (w.setCell ⟨g, p, none⟩ (.int .u64 (v : Int))) g n f' := by
 refine ⟨by simpa using h.1, hf, fun j hj => ?_, fun j => by rw [World.frozen?_setCell]; exact h.2.2.2 j⟩
 rw [he j hj]
 by_cases hjp : j = p
 ·subst hjp
  rw [if_pos rfl]
  exact World.cell?_setCell_same w ⟨g, j, none⟩ _ (h.2.2.1 j hj)
 ·rw [if_neg hjp, World.cell?_setCell_other _ _ _ _ (by simp <;> omega)]
  exact h.2.2.1 j hj
theorem RowW.apart {w : World} {g n : Nat} {f : Nat → Nat} (h : RowW w g n f) (b j : Nat) (v : Value) (hb : g ≠ b) : RowW (w.setCell ⟨b, j, none⟩ v) g n f := by
 refine ⟨by simpa using h.1, h.2.1, fun i hi => ?_, fun i => by rw [World.frozen?_setCell]; exact h.2.2.2 i⟩
 rw [World.cell?_setCell_other _ _ _ _ (by simp <;> omega)]
 exact h.2.2.1 i hi
theorem RowW.set3 {w : World} {g n : Nat} {f : Nat → Nat} (h : RowW w g n f) (b : Nat) (v0 v1 v2 : Value) (hb : g ≠ b) : RowW (((w.setCell ⟨b, 0, none⟩ v0).setCell ⟨b, 1, none⟩ v1).setCell ⟨b, 2, none⟩ v2) g n f :=
 ((h.apart b 0 v0 hb).apart b 1 v1 hb).apart b 2 v2 hb
theorem infoW : (Tryz.prog.info? 27).map (fun i => (i.zero, i.size, i.bytes)) = some (some (.int .u64 0), 1, 8) := by kernel_rfl
theorem make_words (n : Nat) (hn : n ≤ 1000000) (W : World) : (Instr.makeSlice 24 (.int .i64 (n : Int)) (.int .i64 (n : Int))).run Tryz.prog W = .ok (.slice (some ⟨W.heap.size, 0, none⟩) n n) (W.alloc (.cells (madeCells #[.int .u64 0] n) 27)) :=
 run_make_row' (P := Tryz.prog) 24 27 (.int .u64 0) 8 Tryz.underlying24 infoW rfl .i64 .i64 n (by omega) (by omega) W
theorem RowW.made (w : World) (n : Nat) : RowW (w.alloc (.cells (madeCells #[.int .u64 0] n) 27)) w.heap.size n (fun _ => 0) := by
 refine ⟨by simp, fun _ => show (0 : Nat) < _ by decide, fun j hj => ?_, fun j => ?_⟩
 ·rw [World.cell?_alloc_mark]
  simp [madeCells, hj, Nat.mod_one]
 ·have e : (w.alloc (.cells (madeCells #[.int .u64 0] n) 27)).heap[w.heap.size]? = some (.cells (madeCells #[.int .u64 0] n) 27) := heap_alloc_new w _
  unfold World.frozen?
  simp only [e]
  simp
section
variable {H : Type} {enc : TypeId × Value → H} {w : World}
end
end Go.Proofs.YtibpfkcackdbgaaGreatDoor
