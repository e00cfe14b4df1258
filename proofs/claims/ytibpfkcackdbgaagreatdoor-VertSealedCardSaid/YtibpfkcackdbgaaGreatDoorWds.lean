/- Wds -/
import Derived.Test.YtibpfkcackdbgaaGreatDoorBase
import Derived.Test.YtibpfkcackdbgaaGreatDoorFields
import Derived.Deep.OwnRows
namespace Go.Proofs.YtibpfkcackdbgaaGreatDoor
open Go.ChangeShapes Go.WideShapes Go.ChangeAt Go.RowKit Go.Deep
set_option linter.unusedVariables false
set_option maxRecDepth 100000
def AtW (w : World) (a : Option Addr) (n : Nat) (f : Nat → Nat) : Prop :=
 (∀ j, f j < 18446744073709551616) ∧
 (0 < n → ∃ b off, a = some ⟨b, off, none⟩ ∧ b < w.heap.size ∧ ∀ j, j < n → w.cell? ⟨b, off + j, none⟩ = some (.int .u64 ((f j : Nat) : Int)))
theorem AtW.below {B : Nat} {w w' : World} {a : Option Addr} {n : Nat} {f : Nat → Nat} (h : AtW w a n f) (hb : Below B w w') (hB : w.heap.size ≤ B) : AtW w' a n f := by
 refine ⟨h.1, fun hp => ?_⟩
 obtain ⟨b, off, e, hlt, hc⟩ := h.2 hp
 exact ⟨b, off, e, Nat.lt_of_lt_of_le hlt hb.size, fun j hj => (hb.cell (p := ⟨b, off + j, none⟩) (Nat.lt_of_lt_of_le hlt hB)).trans (hc j hj)⟩
theorem AtW.later {w w' : World} {a : Option Addr} {n : Nat} {f : Nat → Nat} (h : AtW w a n f) (hb : Below w.heap.size w w') : AtW w' a n f := h.below hb (Nat.le_refl _)
theorem AtW.nil (w : World) (a : Option Addr) : AtW w a 0 (fun _ => 0) := ⟨fun _ => show (0 : Nat) < _ by decide, fun h => by omega⟩
def RowW (w : World) (g n : Nat) (f : Nat → Nat) : Prop :=
 g < w.heap.size ∧ (∀ j, f j < 18446744073709551616) ∧ (∀ j, j < n → w.cell? ⟨g, j, none⟩ = some (.int .u64 ((f j : Nat) : Int))) ∧ ∀ j, w.frozen? ⟨g, j, none⟩ = false
theorem RowW.below {B : Nat} {w w' : World} {g n : Nat} {f : Nat → Nat} (h : RowW w g n f) (hb : Below B w w') (hB : w.heap.size ≤ B) : RowW w' g n f :=
 ⟨Nat.lt_of_lt_of_le h.1 hb.size, h.2.1, fun j hj => (hb.cell (p := ⟨g, j, none⟩) (Nat.lt_of_lt_of_le h.1 hB)).trans (h.2.2.1 j hj), fun j => (hb.frozen (p := ⟨g, j, none⟩) (Nat.lt_of_lt_of_le h.1 hB)).trans (h.2.2.2 j)⟩
theorem RowW.later {w w' : World} {g n : Nat} {f : Nat → Nat} (h : RowW w g n f) (hb : Below w.heap.size w w') : RowW w' g n f := h.below hb (Nat.le_refl _)
theorem RowW.at_ {w : World} {g n : Nat} {f : Nat → Nat} (h : RowW w g n f) : AtW w (some ⟨g, 0, none⟩) n f :=
 ⟨h.2.1, fun _ => ⟨g, 0, rfl, h.1, fun j hj => by rw [Nat.zero_add]; exact h.2.2.1 j hj⟩⟩
theorem RowW.drewN {w : World} {g n : Nat} {f : Nat → Nat} (h : RowW w g n f) (k : Nat) : RowW (w.drewN k) g n f := h
theorem RowW.as {w : World} {g n : Nat} {f f' : Nat → Nat} (h : RowW w g n f) (hf : ∀ j, f' j < 18446744073709551616) (he : ∀ j, j < n → f' j = f j) : RowW w g n f' :=
 ⟨h.1, hf, fun j hj => by rw [he j hj]; exact h.2.2.1 j hj, h.2.2.2⟩
theorem RowW.stored {w : World} {g n : Nat} {f : Nat → Nat} (h : RowW w g n f) (p v : Nat) (hp : p < n) (f' : Nat → Nat) (hf : ∀ j, f' j < 18446744073709551616) (he : ∀ j, j < n → f' j = if j = p then v else f j) :
  RowW (w.setCell ⟨g, p, none⟩ (.int .u64 (v : Int))) g n f' := by
 refine ⟨by simpa using h.1, hf, fun j hj => ?_, fun j => by rw [World.frozen?_setCell]; exact h.2.2.2 j⟩
 rw [he j hj]
 by_cases hjp : j = p
 ·subst hjp
  rw [if_pos rfl]
  exact World.cell?_setCell_same w ⟨g, j, none⟩ _ (h.2.2.1 j hj)
 ·rw [if_neg hjp, World.cell?_setCell_other _ _ _ _ (by simp <;> omega)]
  exact h.2.2.1 j hj
theorem RowW.apart {w : World} {g n : Nat} {f : Nat → Nat} (h : RowW w g n f) (b j : Nat) (v : Value) (hb : g ≠ b) : RowW (w.setCell ⟨b, j, none⟩ v) g n f := by
 refine ⟨by simpa using h.1, h.2.1, fun i hi => ?_, fun i => by rw [World.frozen?_setCell]; exact h.2.2.2 i⟩
 rw [World.cell?_setCell_other _ _ _ _ (by simp <;> omega)]
 exact h.2.2.1 i hi
theorem RowW.set3 {w : World} {g n : Nat} {f : Nat → Nat} (h : RowW w g n f) (b : Nat) (v0 v1 v2 : Value) (hb : g ≠ b) : RowW (((w.setCell ⟨b, 0, none⟩ v0).setCell ⟨b, 1, none⟩ v1).setCell ⟨b, 2, none⟩ v2) g n f :=
 ((h.apart b 0 v0 hb).apart b 1 v1 hb).apart b 2 v2 hb
theorem infoW : (Tryz.prog.info? 27).map (fun i => (i.zero, i.size, i.bytes)) = some (some (.int .u64 0), 1, 8) := by kernel_rfl
theorem make_words (n : Nat) (hn : n ≤ 1000000) (W : World) : (Instr.makeSlice 24 (.int .i64 (n : Int)) (.int .i64 (n : Int))).run Tryz.prog W = .ok (.slice (some ⟨W.heap.size, 0, none⟩) n n) (W.alloc (.cells (madeCells #[.int .u64 0] n) 27)) :=
 run_make_row' (P := Tryz.prog) 24 27 (.int .u64 0) 8 Tryz.underlying24 infoW rfl .i64 .i64 n (by omega) (by omega) W
theorem RowW.made (w : World) (n : Nat) : RowW (w.alloc (.cells (madeCells #[.int .u64 0] n) 27)) w.heap.size n (fun _ => 0) := by
 refine ⟨by simp, fun _ => show (0 : Nat) < _ by decide, fun j hj => ?_, fun j => ?_⟩
 ·rw [World.cell?_alloc_mark]
  simp [madeCells, hj, Nat.mod_one]
 ·have e : (w.alloc (.cells (madeCells #[.int .u64 0] n) 27)).heap[w.heap.size]? = some (.cells (madeCells #[.int .u64 0] n) 27) := heap_alloc_new w _
  unfold World.frozen?
  simp only [e]
  simp
theorem bytesE : Tryz.prog.bytesOf 27 = 8 := by kernel_rfl
theorem bytesW : 1 ≤ Tryz.prog.bytesOf 27 := by rw [bytesE]; decide
theorem cellsW : Tryz.prog.cellsOf 27 = 1 := by kernel_rfl
section
variable {H : Type} {enc : TypeId × Value → H} {w : World}
theorem leaf_words {fuel : Nat} {cs : List Value} {x : DataW H × List MemPlace} (hf : DataW.trod enc Tryz.prog w 0 (fun _ => true) true fuel 24 cs = some x) (hs : Sized Tryz.prog 24 x.1) (hlt : ∀ z ∈ x.2, z.block < w.heap.size) :
  ∃ (a : Option Addr) (len cap : Nat) (f : Nat → Nat), cs = [.slice a len cap] ∧ (len ≤ cap ∧ len ≤ 140737488355328 ∧ AtW w a len f) := by
 rcases open_ints Tryz.underlying24 Tryz.underlying27 cellsW hf with ⟨hcs, hx⟩ | ⟨a, len, cap, zs, hcs, _, hl, hm, hz, hx, hcell, hwz⟩
 ·exact ⟨none, 0, 0, fun _ => 0, hcs, Nat.le_refl _, by omega, AtW.nil _ _⟩
 ·subst hcs
  have hr := slice_reach Tryz.underlying24 hf hs bytesW
  simp only [if_true] at hz
  refine ⟨some a, len, cap, fun j => ((zs.take len).getD j 0).toNat, rfl, hl, hr, fun j => ?_, fun hp => ?_⟩
  ·show ((zs.take len).getD j 0).toNat < _
   rw [List.getD_eq_getElem?_getD]
   by_cases hj : j < (zs.take len).length
   ·rw [List.getElem?_eq_getElem hj]
    have := bounds_u64 (hwz _ (List.mem_of_mem_take (List.getElem_mem hj)))
    simp only [Option.getD_some]
    omega
   ·rw [List.getElem?_eq_none (by omega)]; decide
  ·obtain ⟨b, off, rfl, hc⟩ := ints_at hcell (by omega)
   refine ⟨b, off, rfl, hlt (.cell b (off + 0)) (by rw [hx]; exact MemPlace.mem_row.2 ⟨0, by omega, rfl⟩), fun j hj => ?_⟩
   rw [hc j (by omega)]
   have hjz : j < zs.length := by omega
   have hw := bounds_u64 (hwz zs[j] (List.getElem_mem _))
   congr 2
   simp only [List.getD_eq_getElem?_getD, List.getElem?_take, if_pos hj, List.getElem?_eq_getElem hjz, Option.getD_some]
   omega
end
end Go.Proofs.YtibpfkcackdbgaaGreatDoor
